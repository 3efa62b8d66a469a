/-
  OWN WORK. Law 14: StateClock.
-/
import Derived.Test.YtbnpgakmhhfjkaaGreatDoorZ19
import Derived.Test.YtbnpgakmhhfjkaaGreatDoorZ02
import Derived.Test.YtbnpgakmhhfjkaaGreatDoorZKpTame
namespace Go.Proofs.YtbnpgakmhhfjkaaGreatDoor
open Go.RowKit Rc
open Tr (Nm En T)
namespace Sm
variable {s s':St.State} {w w' w0:World} {v:Value} {Q:Nat→Prop}
def SDoX (w0:World) (v:Value) (s':St.State) (Q:Nat→Prop) (w:World) (e:Ending) (w':World):Prop :=
 (∃ x,e=.returned x)∧Hid (SP w0 v s' Q w')∧Hid (∀ b,Q b→w'.heap[b]?=w.heap[b]?)
theorem SP.doX (h:SP w0 v s Q w) (hO:St.Ok s) (o:St.Opn) (hF:St.Fit o) (A0:Option Addr) (c0:Nat) (hs:s.snaps.next<1000000000000000) (hr:Rd w A0 o.data) (hK:KAt w) :
    Calls Tryz.prog 15 #[v,opV o (.slice A0 o.data.length c0)] w (SDoX w0 v (St.do_ s o).2 Q w):=by
 refine (h.do_ hO o hF A0 c0 hr hs hK).mono ?_
 rintro e w' ⟨A,c,A2,c2,rfl,_,_,_,h1,h2⟩
 exact ⟨⟨_,rfl⟩,h1.out.less (fun b hb=>.inr hb),h2⟩
theorem next_up {s:St.State} {o:St.Opn} {k:Nat} (h:s.snaps.next≤1+(k:Int)):(St.do_ s o).2.snaps.next≤1+((k+1:Nat):Int):=by
 have:=St.do_next s o
 omega
set_option maxHeartbeats 4000000 in
set_option maxRecDepth 100000 in
theorem clock_any (w:World) (AL:Option Addr) (ps:List AskO) (cl:Nat) (ha:AsksO w AL ps) (hcl:ps.length≤cl) (hlen:ps.length≤9223372036854775807) (hK:KAt w) :
    Calls Tryz.prog 7 #[.slice AL ps.length cl] w fun e w'=>e=.returned (.bool true)∧Below w.heap.size w w':=by
 have HK:=Lib.hid hK
 have HA:=Lib.hid ha
 have HNEW:=Lib.hid (SP.new w)
 obtain ⟨nl,hnl⟩:∃ n,n=ps.length:=⟨_,rfl⟩
 rw [← hnl] at hcl hlen ⊢
 have HNL:=Lib.hid hnl
 clear ha hnl hK
 go_enter Tryz.func7,Tryz.ntmps7
 go_wp2_with fail
 refine HNEW.out.mono ?_
 rintro e w1 ⟨p,rfl,HS0⟩
 clear HNEW
 go_wp2_with fail
 go_loopw [4,5,6] (fun t4 t5 t6 wr=>∃ (i:Nat) (st:St.State) (v5 v6:Value),t4=.int .i64 (i:Nat)∧t5=v5∧t6=v6∧i≤60∧i≤nl∧Hid (SP w (.pointer (some ⟨p,0,none⟩)) st (fun _=>False) wr)∧Hid (St.Ok st)∧Hid (st.snaps.next≤1+(i:Int))) (fun t4 _ _ _=>60-(match t4 with|.int _ k=>k.toNat|_=>0))
 case atStart=>exact ⟨0,St.new,_,_,rfl,rfl,rfl,by omega,by omega,HS0,St.new_ok,(by decide:(1:Int)≤1+((0:Nat):Int))⟩
 case round =>
  obtain ⟨i,st,v5,v6,rfl,rfl,rfl,hi60,hin,HS,HO,HNX⟩:=hrel
  clear HS0
  by_cases hlt:i<nl
  ·by_cases h60:i<60
   ·have hi1:(i:Int)<(nl:Int):=by omega
    have hi2:(i:Int)<60:=by omega
    obtain ⟨b,off,rfl,hall⟩:=HA.out.plain (by rw [← HNL.out];omega)
    obtain ⟨a,hx⟩:∃ a,ps[i]?=some a:=⟨_,List.getElem?_eq_getElem (by rw [← HNL.out];exact hlt)⟩
    have hOK:=hall i a hx
    have HLOW:Hid (Below w.heap.size w wr):=HS.out.low
    have cell:∀ (W:World),Below w.heap.size w W→∀ k u,a.cells[k]?=some u→W.cell? ⟨b,off+i*9+k,none⟩=some u:=fun W hb k u hu=>hOK.at_ hb k u hu
    have HCELL:=Lib.hid cell
    obtain ⟨kd,path,dest,fd,at_,nn,till,snap,Xd,data,cd⟩:=a
    have HFT:=Lib.hid hOK.fit
    have cl0:wr.cell? ⟨b,off+i*9,none⟩=some (.int .i64 kd):=HCELL.out wr HLOW.out 0 _ rfl
    have cl1:=HCELL.out wr HLOW.out 1 _ rfl
    have cl2:=HCELL.out wr HLOW.out 2 _ rfl
    have cl3:=HCELL.out wr HLOW.out 3 _ rfl
    have cl4:=HCELL.out wr HLOW.out 4 _ rfl
    have cl5:=HCELL.out wr HLOW.out 5 _ rfl
    have cl6:=HCELL.out wr HLOW.out 6 _ rfl
    have cl7:=HCELL.out wr HLOW.out 7 _ rfl
    have cl8:=HCELL.out wr HLOW.out 8 _ rfl
    have ht:=fun W=>Kp.tame_any ⟨kd,path,dest,fd,at_,nn,till,snap,data⟩ HFT.out.ifd HFT.out.iat_ HFT.out.inn HFT.out.isnap HFT.out.lpath HFT.out.ldest HFT.out.ldata Xd cd HFT.out.fdata W
    obtain ⟨y,hy⟩:∃ y,y=St.tame ⟨kd,path,dest,fd,at_,nn,till,snap,data⟩:=⟨_,rfl⟩
    have hyf:St.Fit y:=by rw [hy];exact St.tame_fit HFT.out.ikd
    have hyr:Rd w Xd y.data:=by rw [hy];exact HFT.out.rdata.take 40
    have hyk:y.kind=kd:=by rw [hy];rfl
    rw [← hy] at ht
    have HTM:=Lib.hid ht
    have HYF:=Lib.hid hyf
    have HYR:=Lib.hid hyr
    clear ht hy hyf hyr cell hOK hall
    unfold Kp.lit at HTM
    obtain ⟨yk,yp,yt,yf,ya,yn,yu,ys,yd⟩:=y
    dsimp only at HTM HYR hyk
    subst hyk
    go_wp2_with fail
    refine (HTM.out wr).mono ?_
    rintro e wA ⟨rfl,hbA⟩
    obtain ⟨WB,hWB⟩:∃ W,W=wA.alloc (.cells #[.int .i64 yk,.string (strOf yp),.string (strOf yt),.int .i64 yf,.int .i64 ya,.int .i64 yn,.int .u64 (yu:Nat),.int .i64 ys,.slice Xd yd.length cd] 36):=⟨_,rfl⟩
    obtain ⟨go,hgo⟩:∃ g,g=wA.heap.size:=⟨_,rfl⟩
    have HXB:Hid (Blk WB go 36 [.int .i64 yk,.string (strOf yp),.string (strOf yt),.int .i64 yf,.int .i64 ya,.int .i64 yn,.int .u64 (yu:Nat),.int .i64 ys,.slice Xd yd.length cd]):=by show Blk _ _ _ _;rw [hWB,hgo];exact Blk.new wA _ _
    have hbn:Below wA.heap.size wA WB:=by rw [hWB];exact below_new wA _
    have HSB:Hid (SP w (.pointer (some ⟨p,0,none⟩)) st (fun b=>b=go∨(fun _=>False) b) WB):=(HS.out.later hbA).made hbn go (Nat.le_of_eq hgo.symm) HXB.out.lt
    have HLB:Hid (Below w.heap.size w WB):=HSB.out.low
    have HGO:Hid (w.heap.size≤go):=by show _≤_;rw [hgo];exact Nat.le_trans HLOW.out.size hbA.size
    clear hbn hbA HS HLOW HTM cl0 cl1 cl2 cl3 cl4 cl5 cl6 cl7 cl8
    go_upto_region 8 with (fail)
    rw [← hWB,← hgo]
    clear hWB hgo
    have cl5:=HCELL.out WB HLB.out 5 _ rfl
    by_cases h3:nn.tmod 3=0
    ·have cl6:=HCELL.out WB HLB.out 6 _ rfl
     have z6:=HXB.out.cell 6
     have f6:=HXB.out.frozen 6
     have HTL:Hid (till<18446744073709551616):=Nat.lt_succ_of_le HFT.out.itill
     have hm:Mod WB (WB.setCell ⟨go,6,none⟩ (.int .u64 (till:Nat))) (fun b=>b=go):=by
      have:=(Keeps.refl WB go).setCell 6 (.int .u64 (till:Nat))
      exact ⟨this.os,this.tape,this.output,this.size,fun k hk hn=>this.block k hk (fun e=>hn (by injection e))⟩
     obtain ⟨WC,hWC⟩:∃ W,W=WB.setCell ⟨go,6,none⟩ (.int .u64 (till:Nat)):=⟨_,rfl⟩
     rw [← hWC] at hm
     have HSC:Hid (SP w (.pointer (some ⟨p,0,none⟩)) st (fun b=>b=go∨(fun _=>False) b) WC):=HSB.out.poke go hm (.inl rfl) HGO.out
     have HXC:Hid (Blk WC go 36 [.int .i64 yk,.string (strOf yp),.string (strOf yt),.int .i64 yf,.int .i64 ya,.int .i64 yn,.int .u64 (till:Nat),.int .i64 ys,.slice Xd yd.length cd]):=by show Blk _ _ _ _;rw [hWC];exact HXB.out.set_ 6 _
     clear hm
     go_upto_region 10 with (fail)
     rw [← hWC]
     clear hWC HSB HXB z6 f6 cl5 cl6 h3
     have HLB2:Hid (Below w.heap.size w WC):=HSC.out.low
     obtain ⟨s2,hs2⟩:∃ s2,s2=(St.do_ st ⟨yk,yp,yt,yf,ya,yn,till,ys,yd⟩).2:=⟨_,rfl⟩
     have HM:=Lib.hid (HSC.out.doX HO.out ⟨yk,yp,yt,yf,ya,yn,till,ys,yd⟩ (⟨HYF.out.kind,HYF.out.path,HYF.out.dest,HYF.out.fd,HYF.out.at_,HYF.out.n,HTL.out,HYF.out.snap,HYF.out.data⟩) Xd cd (by have:=HNX.out;omega) (HYR.out.below HLB2.out) (KAt.below HK.out HLB2.out HK.out.pos))
     rw [← hs2] at HM
     have HO2:Hid (St.Ok s2):=by show St.Ok s2;rw [hs2];exact St.do_ok HO.out (by have:=HNX.out;omega) _
     have HNX2:Hid (s2.snaps.next≤1+((i+1:Nat):Int)):=by show _≤_;rw [hs2];exact next_up HNX.out
     have HNW:Hid (st.now≤s2.now∧(yk≠16→s2.now=st.now)):=by
      show _∧_
      rw [hs2,St.do_now]
      refine ⟨?_,fun h=>?_⟩
      ·split
       ·exact St.tick_ge _ _
       ·exact Nat.le_refl _
      ·rw [if_neg (fun h9=>h h9.2)]
     clear hs2
     obtain ⟨n1,hn1⟩:∃ n,n=st.now:=⟨_,rfl⟩
     obtain ⟨n2,hn2⟩:∃ n,n=s2.now:=⟨_,rfl⟩
     have HN1:Hid (∀ W,W=WC→Calls Tryz.prog 17 #[.pointer (some ⟨p,0,none⟩)] W fun e w'=>e=.returned (.int .u64 (n1:Nat))∧w'=W):=fun W h=>by rw [h,hn1];exact HSC.out.now
     have HN2:Hid (∀ W,SP w (.pointer (some ⟨p,0,none⟩)) s2 (fun b=>b=go∨(fun _=>False) b) W→Calls Tryz.prog 17 #[.pointer (some ⟨p,0,none⟩)] W fun e w'=>e=.returned (.int .u64 (n2:Nat))∧w'=W):=fun W h=>by rw [hn2];exact h.now
     have hmax:n2≤1099511627776:=by rw [hn2];exact HO2.out.now
     rw [← hn1,← hn2] at HNW
     clear hn1 hn2
     unfold opV at HM
     dsimp only at HM
     go_wp2_with fail
     refine (HN1.out _ rfl).mono ?_
     rintro e w2 ⟨rfl,hw⟩
     subst hw
     have x0:=HXC.out.cell 0
     have x1:=HXC.out.cell 1
     have x2:=HXC.out.cell 2
     have x3:=HXC.out.cell 3
     have x4:=HXC.out.cell 4
     have x5:=HXC.out.cell 5
     have x6:=HXC.out.cell 6
     have x7:=HXC.out.cell 7
     have x8:=HXC.out.cell 8
     go_wp2_with fail
     refine HM.out.mono ?_
     rintro e w3 ⟨⟨xr,rfl⟩,HS3,hq⟩
     have HX3:Hid (Blk w3 go 36 [.int .i64 yk,.string (strOf yp),.string (strOf yt),.int .i64 yf,.int .i64 ya,.int .i64 yn,.int .u64 (till:Nat),.int .i64 ys,.slice Xd yd.length cd]):=(hq.out go (.inl rfl)).trans HXC.out
     clear hq HM x0 x1 x2 x3 x4 x5 x6 x7 x8
     have x0:=HX3.out.cell 0
     by_cases hk:yk=16
     ·have h1:(n1:Int)≤(n2:Int):=by have:=HNW.out.1;omega
      have h2:¬ (n2:Int)<(n1:Int):=by omega
      have h3:¬ (1099511627776:Int)<(n2:Int):=by omega
      subst hk
      clear hmax h1
      go_wp2_with fail
      refine (HN2.out _ HS3.out).mono ?_
      rintro e w4 ⟨rfl,hw⟩
      subst hw
      go_wp2_with fail
      refine (HN2.out _ HS3.out).mono ?_
      rintro e w5 ⟨rfl,hw⟩
      subst hw
      go_wp2_with fail
      go_roundw
      case rel=>exact ⟨i+1,s2,_,_,by go_num,rfl,rfl,by omega,by omega,HS3.out.less fun _ h=>h.elim,HO2,HNX2⟩
      case measure=>simp;omega
     ·have hnn:n2=n1:=HNW.out.2 hk
      subst hnn
      have h2:¬ (n2:Int)<(n2:Int):=by omega
      have h3:¬ (1099511627776:Int)<(n2:Int):=by omega
      have hk2:(yk==16)=false:=by rw [beq_eq_false_iff_ne];exact hk
      have hk3:¬ yk=16:=hk
      clear hmax hk
      go_wp2_with fail
      refine (HN2.out _ HS3.out).mono ?_
      rintro e w4 ⟨rfl,hw⟩
      subst hw
      go_wp2_with fail
      refine (HN2.out _ HS3.out).mono ?_
      rintro e w5 ⟨rfl,hw⟩
      subst hw
      go_wp2_with fail
      refine (HN2.out _ HS3.out).mono ?_
      rintro e w6 ⟨rfl,hw⟩
      subst hw
      go_wp2_with fail
      go_roundw
      case rel=>exact ⟨i+1,s2,_,_,by go_num,rfl,rfl,by omega,by omega,HS3.out.less fun _ h=>h.elim,HO2,HNX2⟩
      case measure=>simp;omega
    ·have h3b:(nn.tmod 3==0)=false:=by rw [beq_eq_false_iff_ne];exact h3
     clear h3
     go_upto_region 10 with (fail)
     clear cl5 h3b
     have HLB2:Hid (Below w.heap.size w WB):=HSB.out.low
     obtain ⟨s2,hs2⟩:∃ s2,s2=(St.do_ st ⟨yk,yp,yt,yf,ya,yn,yu,ys,yd⟩).2:=⟨_,rfl⟩
     have HM:=Lib.hid (HSB.out.doX HO.out ⟨yk,yp,yt,yf,ya,yn,yu,ys,yd⟩ HYF.out Xd cd (by have:=HNX.out;omega) (HYR.out.below HLB2.out) (KAt.below HK.out HLB2.out HK.out.pos))
     rw [← hs2] at HM
     have HO2:Hid (St.Ok s2):=by show St.Ok s2;rw [hs2];exact St.do_ok HO.out (by have:=HNX.out;omega) _
     have HNX2:Hid (s2.snaps.next≤1+((i+1:Nat):Int)):=by show _≤_;rw [hs2];exact next_up HNX.out
     have HNW:Hid (st.now≤s2.now∧(yk≠16→s2.now=st.now)):=by
      show _∧_
      rw [hs2,St.do_now]
      refine ⟨?_,fun h=>?_⟩
      ·split
       ·exact St.tick_ge _ _
       ·exact Nat.le_refl _
      ·rw [if_neg (fun h9=>h h9.2)]
     clear hs2
     obtain ⟨n1,hn1⟩:∃ n,n=st.now:=⟨_,rfl⟩
     obtain ⟨n2,hn2⟩:∃ n,n=s2.now:=⟨_,rfl⟩
     have HN1:Hid (∀ W,W=WB→Calls Tryz.prog 17 #[.pointer (some ⟨p,0,none⟩)] W fun e w'=>e=.returned (.int .u64 (n1:Nat))∧w'=W):=fun W h=>by rw [h,hn1];exact HSB.out.now
     have HN2:Hid (∀ W,SP w (.pointer (some ⟨p,0,none⟩)) s2 (fun b=>b=go∨(fun _=>False) b) W→Calls Tryz.prog 17 #[.pointer (some ⟨p,0,none⟩)] W fun e w'=>e=.returned (.int .u64 (n2:Nat))∧w'=W):=fun W h=>by rw [hn2];exact h.now
     have hmax:n2≤1099511627776:=by rw [hn2];exact HO2.out.now
     rw [← hn1,← hn2] at HNW
     clear hn1 hn2
     unfold opV at HM
     dsimp only at HM
     go_wp2_with fail
     refine (HN1.out _ rfl).mono ?_
     rintro e w2 ⟨rfl,hw⟩
     subst hw
     have x0:=HXB.out.cell 0
     have x1:=HXB.out.cell 1
     have x2:=HXB.out.cell 2
     have x3:=HXB.out.cell 3
     have x4:=HXB.out.cell 4
     have x5:=HXB.out.cell 5
     have x6:=HXB.out.cell 6
     have x7:=HXB.out.cell 7
     have x8:=HXB.out.cell 8
     go_wp2_with fail
     refine HM.out.mono ?_
     rintro e w3 ⟨⟨xr,rfl⟩,HS3,hq⟩
     have HX3:Hid (Blk w3 go 36 [.int .i64 yk,.string (strOf yp),.string (strOf yt),.int .i64 yf,.int .i64 ya,.int .i64 yn,.int .u64 (yu:Nat),.int .i64 ys,.slice Xd yd.length cd]):=(hq.out go (.inl rfl)).trans HXB.out
     clear hq HM x0 x1 x2 x3 x4 x5 x6 x7 x8
     have x0:=HX3.out.cell 0
     by_cases hk:yk=16
     ·have h1:(n1:Int)≤(n2:Int):=by have:=HNW.out.1;omega
      have h2:¬ (n2:Int)<(n1:Int):=by omega
      have h3:¬ (1099511627776:Int)<(n2:Int):=by omega
      subst hk
      clear hmax h1
      go_wp2_with fail
      refine (HN2.out _ HS3.out).mono ?_
      rintro e w4 ⟨rfl,hw⟩
      subst hw
      go_wp2_with fail
      refine (HN2.out _ HS3.out).mono ?_
      rintro e w5 ⟨rfl,hw⟩
      subst hw
      go_wp2_with fail
      go_roundw
      case rel=>exact ⟨i+1,s2,_,_,by go_num,rfl,rfl,by omega,by omega,HS3.out.less fun _ h=>h.elim,HO2,HNX2⟩
      case measure=>simp;omega
     ·have hnn:n2=n1:=HNW.out.2 hk
      subst hnn
      have h2:¬ (n2:Int)<(n2:Int):=by omega
      have h3:¬ (1099511627776:Int)<(n2:Int):=by omega
      have hk2:(yk==16)=false:=by rw [beq_eq_false_iff_ne];exact hk
      have hk3:¬ yk=16:=hk
      clear hmax hk
      go_wp2_with fail
      refine (HN2.out _ HS3.out).mono ?_
      rintro e w4 ⟨rfl,hw⟩
      subst hw
      go_wp2_with fail
      refine (HN2.out _ HS3.out).mono ?_
      rintro e w5 ⟨rfl,hw⟩
      subst hw
      go_wp2_with fail
      refine (HN2.out _ HS3.out).mono ?_
      rintro e w6 ⟨rfl,hw⟩
      subst hw
      go_wp2_with fail
      go_roundw
      case rel=>exact ⟨i+1,s2,_,_,by go_num,rfl,rfl,by omega,by omega,HS3.out.less fun _ h=>h.elim,HO2,HNX2⟩
      case measure=>simp;omega
   ·obtain rfl:i=60:=by omega
    have hi1:((60:Nat):Int)<(nl:Int):=by omega
    have HKN:=Lib.hid (known_any wr (KAt.below HK.out HS.out.low HK.out.pos))
    go_wp2_with fail
    refine HKN.out.mono ?_
    rintro e w2 ⟨rfl,hb⟩
    have HB2:Hid (Below w.heap.size w w2):=HS.out.low.trans (hb.mono HS.out.low.size)
    clear hb
    go_wp2_with fail
    go_ret
    exact ⟨rfl,HB2.out⟩
  ·obtain rfl:i=nl:=by omega
   have HKN:=Lib.hid (known_any wr (KAt.below HK.out HS.out.low HK.out.pos))
   go_wp2_with fail
   refine HKN.out.mono ?_
   rintro e w2 ⟨rfl,hb⟩
   have HB2:Hid (Below w.heap.size w w2):=HS.out.low.trans (hb.mono HS.out.low.size)
   clear hb
   go_wp2_with fail
   go_ret
   exact ⟨rfl,HB2.out⟩
end Sm
end Go.Proofs.YtbnpgakmhhfjkaaGreatDoor
