/-
  OWN WORK. Law 11's TreeBack, walked: a tree comes back from its bytes; it goes on as the other one.
-/
import Derived.Test.YtjoedamiilgajaaGreatW16
import Derived.Test.YtjoedamiilgajaaGreatWTwLoads
namespace Go.Proofs.YtjoedamiilgajaaGreat
open Go.RowKit Rc
open Tr (Nm En T)
namespace Tr
theorem save_inj {t u:T} (ht:Good t) (hst:Slim t) (hu:Good u) (hsu:Slim u) (h:save t=save u):t=u:=by
 obtain ⟨a1,a2⟩:=save_reads ht hst
 obtain ⟨b1,b2⟩:=save_reads hu hsu
 rw [h,b1] at a1
 injection a1 with c1 c2
 rw [← c1,← c2,b2] at a2
 injection a2 with c3
 injection c3 with c4 _
 exact c4.symm
end Tr
namespace Tw
open Ts (LoadOut load_any)
def Fo (vt vw vu vv:Value) (Ta Ra Tb Rb:T) (w wr:World):Prop:=∃ B1 B2 B3 B4:Nat→Prop,Tm.TAt vt Ta B1 wr∧Rf.RAt vw Ra B2 wr∧Tm.TAt vu Tb B3 wr∧Rf.RAt vv Rb B4 wr∧(∀ k,B1 k→¬ B2 k∧¬ B3 k∧¬ B4 k)∧(∀ k,B2 k→¬ B3 k∧¬ B4 k)∧(∀ k,B3 k→¬ B4 k)∧Below w.heap.size w wr∧∀ k,B1 k∨B2 k∨B3 k∨B4 k→w.heap.size≤k
variable {vt vw vu vv:Value} {Ta Ra Tb Rb:T} {w wr w':World}
theorem Fo.swap (h:Fo vt vw vu vv Ta Ra Tb Rb w wr):Fo vu vv vt vw Tb Rb Ta Ra w wr:=by
 obtain ⟨B1,B2,B3,B4,h1,h2,h3,h4,h5,h6,h7,h8,h9⟩:=h
 exact ⟨B3,B4,B1,B2,h3,h4,h1,h2,fun k hk=>⟨h7 k hk,fun hb=>(h5 k hb).2.1 hk,fun hb=>(h6 k hb).1 hk⟩,fun k hk=>⟨fun hb=>(h5 k hb).2.2 hk,fun hb=>(h6 k hb).2 hk⟩,fun k hk=>(h5 k hk).1,h8,fun k hk=>h9 k (by rcases hk with h|h|h|h <;> simp [h])⟩
theorem Fo.low (h:Fo vt vw vu vv Ta Ra Tb Rb w wr):Below w.heap.size w wr:=by
 obtain ⟨_,_,_,_,_,_,_,_,_,_,_,h8,_⟩:=h
 exact h8
theorem Fo.do_ (h:Fo vt vw vu vv Ta Ra Tb Rb w wr) (hG:Tr.Good Ta) (hG2:Tr.Good Ra) (p:AskT) (hp:p.Fits wr) (hfar:0<p.b.length→∀ k,p.X.map (·.block)=some k→k<w.heap.size) :
    Calls Tryz.prog 33 #[vt,vw,p.val] wr fun e w'=>(∃ b,e=.returned (.bool b))∧Hid (Fo vt vw vu vv (stepT p Ta) (stepT p Ra) Tb Rb w w'):=by
 obtain ⟨B1,B2,B3,B4,h1,h2,h3,h4,h5,h6,h7,h8,h9⟩:=h
 refine (do2_any h1 h2 (fun k hk=>(h5 k hk).1) hG hG2 hp fun hl k hk=>?_).mono ?_
 ·have:=hfar hl k hk
  exact ⟨fun hb=>by have:=h9 k (.inl hb);omega,fun hb=>by have:=h9 k (.inr (.inl hb));omega⟩
 ·rintro e w' ⟨he,B1',B2',k1,k2,k3,k4,k5⟩
  have l3:∀ k,B3 k→k<wr.heap.size:=fun k hk=>Tm.tobj.lt h3 k hk
  have l4:∀ k,B4 k→k<wr.heap.size:=fun k hk=>Rf.robj.lt h4 k hk
  have n3:∀ k,B3 k→¬ (B1' k∨B2' k):=fun k hk hb=>by
   rcases k5 k hb with (h|h)|h
   ·exact (h5 k h).2.1 hk
   ·exact (h6 k h).1 hk
   ·have:=l3 k hk;omega
  have n4:∀ k,B4 k→¬ (B1' k∨B2' k):=fun k hk hb=>by
   rcases k5 k hb with (h|h)|h
   ·exact (h5 k h).2.2 hk
   ·exact (h6 k h).2 hk
   ·have:=l4 k hk;omega
  refine ⟨he,B1',B2',B3,B4,k1,k2,Tm.tobj.keep h3 k4.size fun k hk=>k4.block k (l3 k hk) fun hb=>hb.elim (fun h=>(h5 k h).2.1 hk) fun h=>(h6 k h).1 hk,Rf.robj.keep h4 k4.size fun k hk=>k4.block k (l4 k hk) fun hb=>hb.elim (fun h=>(h5 k h).2.2 hk) fun h=>(h6 k h).2 hk,
   fun k hk=>⟨k3 k hk,fun hb=>n3 k hb (.inl hk),fun hb=>n4 k hb (.inl hk)⟩,fun k hk=>⟨fun hb=>n3 k hb (.inr hk),fun hb=>n4 k hb (.inr hk)⟩,h7,?_,fun k hk=>?_⟩
  ·exact ⟨k4.os.trans h8.os,k4.tape.trans h8.tape,k4.output.trans h8.output,Nat.le_trans h8.size k4.size,fun k hk=>(k4.block k (Nat.lt_of_lt_of_le hk h8.size) fun hb=>Nat.not_lt.2 (h9 k (hb.elim .inl fun h=>.inr (.inl h))) hk).trans (h8.block k hk)⟩
  ·have key:B1' k∨B2' k→w.heap.size≤k:=fun hb=>by
    rcases k5 k hb with (h|h)|h
    ·exact h9 k (.inl h)
    ·exact h9 k (.inr (.inl h))
    ·exact Nat.le_trans h8.size h
   rcases hk with hk|hk|hk|hk
   ·exact key (.inl hk)
   ·exact key (.inr hk)
   ·exact h9 k (.inr (.inr (.inl hk)))
   ·exact h9 k (.inr (.inr (.inr hk)))
def BkI (vt vw vu vv:Value) (w wr:World):Prop:=∃ Tt R,Tr.Good Tt∧Tr.Good R∧Fo vt vw vu vv Tt R Tt R w wr
set_option maxHeartbeats 4000000 in
set_option maxRecDepth 100000 in
theorem back_any (w:World) (ps:List AskT) (A:Option Addr) (c1:Nat) (qs:List AskT) (A2:Option Addr) (c2:Nat) (hp:AsksT w A ps) (hl:ps.length≤9223372036854775807) (hq:AsksT w A2 qs) (hl2:qs.length≤9223372036854775807) :
    Calls Tryz.prog 5 #[.slice A ps.length c1,.slice A2 qs.length c2] w fun e w'=>e=.returned (.bool true)∧Below w.heap.size w w':=by
 have HPL:=Lib.hid (played_one w ps A c1 hp hl)
 have HP:=Lib.hid hq
 clear hp hl hq
 go_enter Tryz.func5,Tryz.ntmps5
 go_wp2_with fail
 refine HPL.out.mono ?_
 rintro e w1 ⟨p,qd,Tt,B1,rfl,HG,HS,HO⟩
 clear HPL
 obtain ⟨p',av,gs,S,hv,hT0,hB0⟩:=HO.out.parts
 injection hv with hv
 injection hv with hv
 injection hv with hv
 subst hv
 have HT1:=Lib.hid hT0
 have HU1:Hid (Below w.heap.size w w1∧∀ k,Tm.TrS p av S k→w.heap.size≤k):=⟨HO.out.low,fun k hk=>HO.out.up k (by rw [hB0];exact hk)⟩
 clear hT0 hB0 HO
 go_wp2_with fail
 refine (Tm.save_any HT1.out HG.out).mono ?_
 rintro e wS ⟨X2,cx,rfl,hcx,hrx,_,hb2⟩
 have HT2:Hid (Tm.TIn p av gs S Tt wS):=HT1.out.below hb2
 have HU2:Hid (Below w.heap.size w wS∧∀ k,Tm.TrS p av S k→w.heap.size≤k):=⟨HU1.out.1.trans (hb2.mono HU1.out.1.size),HU1.out.2⟩
 obtain ⟨L,hL⟩:∃ L,L=Tr.save Tt:=⟨_,rfl⟩
 rw [← hL] at hcx hrx ⊢
 have HSL:Hid (Tr.Slim Tt):=HS.out.slim HG.out
 have HLOAD:=Lib.hid (load_any wS X2 L cx hrx (by rw [hL];have:=(Tr.save_small HG.out HS.out).2;omega))
 have HRX:=Lib.hid hrx
 have HCX:Hid (L.length≤cx):=hcx
 have HLS:Hid (L=Tr.save Tt):=hL
 clear hb2 hcx hrx HT1 HU1 hL
 go_wp2_with fail
 refine HLOAD.out.mono ?_
 rintro e w3 ⟨hb3,⟨t,pu,au,gu,Su,hGu,hSu,hsv,rfl,hTu,hup⟩|⟨hno,rfl⟩⟩
 ·obtain rfl:Tt=t:=Tr.save_inj HG.out HSL.out hGu hSu (by rw [hsv];exact HLS.out.symm)
  have HTU:=Lib.hid hTu
  have HT3:Hid (Tm.TIn p av gs S Tt w3):=HT2.out.below hb3
  have HU3:Hid (Below w.heap.size w w3∧(∀ k,Tm.TrS p av S k→w.heap.size≤k∧k<wS.heap.size)∧∀ k,Tm.TrS pu au Su k→wS.heap.size≤k):=⟨HU2.out.1.trans (hb3.mono HU2.out.1.size),fun k hk=>⟨HU2.out.2 k hk,HT2.out.lt hk⟩,hup⟩
  have HRX3:Hid (Rd w3 X2 L):=HRX.out.below hb3
  have hcx:L.length≤cx:=HCX.out
  have HSVU:Hid (∀ W,Below w3.heap.size w3 W→Calls Tryz.prog 28 #[.pointer (some ⟨pu,0,none⟩)] W fun e w'=>∃ v,e=.returned v∧w'.ownsRow W.heap.size 5 1 v L.length (Lib.byteCells L)∧Below W.heap.size W w'):=fun W hW=>(Tm.save_any (HTU.out.below hW) hGu).mono fun e w' ⟨X9,c9,h1,_,_,h2,h3⟩=>by
   rw [show Tr.save Tt=L from HLS.out.symm] at h1 h2
   exact ⟨_,h1,h2,h3⟩
  have HCU:Hid (∀ W,Below w3.heap.size w3 W→Calls Tryz.prog 40 #[.pointer (some ⟨pu,0,none⟩)] W fun e w'=>e=.returned (.int .i64 (Tt.length:Nat))∧Below W.heap.size W w'):=fun W hW=>(Tm.count_any (HTU.out.below hW)).mono fun e w' ⟨h1,h2⟩=>⟨h1,by rw [h2];exact Below.refl _ _⟩
  have HCT:Hid (∀ W,Below w3.heap.size w3 W→Calls Tryz.prog 40 #[.pointer (some ⟨p,0,none⟩)] W fun e w'=>e=.returned (.int .i64 (Tt.length:Nat))∧Below W.heap.size W w'):=fun W hW=>(Tm.count_any (HT3.out.below hW)).mono fun e w' ⟨h1,h2⟩=>⟨h1,by rw [h2];exact Below.refl _ _⟩
  clear hTu hup hb3 hsv hGu hSu HT2 HU2 HLOAD HRX HCX HSL HS
  go_upto_region 6 with (fail)
  refine Rg.wp_region_facts (by kernel_rfl) (fun opn=>List.getD [Rg.val (.pointer (some ⟨pu,0,none⟩)),Rg.val (.bool false),Rg.val (.bool false),Rg.val (.int .i64 0),Rg.val (.bool false),Rg.val (.bool false),Rg.val (.bool false),Rg.val (.pointer (some ⟨pu,0,none⟩)),bRow (L),Rg.val (.string (strOf (L))),Rg.val (.slice X2 L.length cx),Rg.val (.string (strOf (L))),Rg.val (.bool false),Rg.val (.bool false),Rg.val (.bool false),Rg.val (.pointer (some ⟨pu,0,none⟩)),Rg.val (.int .i64 (Tt.length:Nat)),Rg.val (.pointer (some ⟨p,0,none⟩)),Rg.val (.int .i64 (Tt.length:Nat)),Rg.val (.bool false),Rg.val (.bool false)] opn Rg.any) [] [[],[(0,27)],[(1,28)],[(2,29)],[(2,29),(3,30)],[(2,29),(4,31)],[(5,32)],[(6,33)],[(6,33),(7,34)],[(6,33),(8,35)],[(6,33)],[(6,33),(10,37)],[(6,33),(9,36),(11,38)],[(6,33),(12,39)],[(13,40)],[(14,41)],[(14,41),(15,42)],[(14,41)],[(14,41),(17,44)],[(14,41),(16,43),(18,45)],[(14,41),(19,46)]] [] (by kernel_rfl) (by rfl) (by kernel_rfl) ?_ ?_
  ·intro fr ha
   have hz:fr.tmps.size=84:=by rw [ha];rfl
   have y5:fr.eval (.tmp 5)=.pointer (some ⟨p,0,none⟩):=by rw [ha];rfl
   have y7:fr.eval (.tmp 7)=.slice X2 L.length cx:=by rw [ha];rfl
   have y8:fr.eval (.tmp 8)=.pointer (some ⟨pu,0,none⟩):=by rw [ha];rfl
   have y9:fr.eval (.tmp 9)=.int .i64 0:=by rw [ha];rfl
   clear ha
   refine .cons ?_ (.cons ?_ (.cons ?_ (.cons ?_ (.cons ?_ (.cons ?_ (.cons ?_ (.cons ?_ (.cons ?_ (.cons ?_ (.cons ?_ (.cons ?_ (.cons ?_ (.cons ?_ (.cons ?_ (.cons ?_ (.cons ?_ (.cons ?_ (.cons ?_ (.cons ?_ (.cons ?_ (.nil)))))))))))))))))))))
   ·intro V w2 HL HH
    have tb8:=(Rg.use_eval V fr 8 [] (by rw [hz];decide)).trans y8
    show Rg.Does1 _ _ V (Rg.putUse V [] fr) w2 _
    exact step_mv (.pointer (some ⟨pu,0,none⟩)) (by simp only [execOp,tb8];go_simp) rfl rfl rfl True.intro
   ·intro V w2 HL HH
    have h0:V 0=_:=HH.1
    have tb27:=(Rg.use_eval V fr 27 [(0,27)] (by rw [hz];decide)).trans h0
    show Rg.Does1 _ _ V (Rg.putUse V [(0,27)] fr) w2 _
    exact step_mv (.bool false) (by simp only [execOp,tb27];go_simp) rfl rfl rfl True.intro
   ·intro V w2 HL HH
    have h1:V 1=_:=HH.1
    have tb28:=(Rg.use_eval V fr 28 [(1,28)] (by rw [hz];decide)).trans h1
    show Rg.Does1 _ _ V (Rg.putUse V [(1,28)] fr) w2 _
    exact step_mv (.bool false) (by simp only [execOp,tb28];go_simp) rfl rfl rfl True.intro
   ·intro V w2 HL HH
    have h2:V 2=_:=HH.1
    have tb9:=(Rg.use_eval V fr 9 [(2,29)] (by rw [hz];decide)).trans y9
    show Rg.Does1 _ _ V (Rg.putUse V [(2,29)] fr) w2 _
    exact step_mv (.int .i64 0) (by simp only [execOp,tb9];go_simp) rfl rfl rfl h2
   ·intro V w2 HL HH
    have h2:V 2=_:=HH.1
    have h3:V 3=_:=HH.2.1
    have tb30:=(Rg.use_eval V fr 30 [(2,29),(3,30)] (by rw [hz];decide)).trans h3
    show Rg.Does1 _ _ V (Rg.putUse V [(2,29),(3,30)] fr) w2 _
    exact step_mv (.bool false) (by simp only [execOp,tb30];go_simp) rfl rfl rfl h2
   ·intro V w2 HL HH
    have h2:V 2=_:=HH.1
    have h4:V 4=_:=HH.2.1
    have tb29:=(Rg.use_eval V fr 29 [(2,29),(4,31)] (by rw [hz];decide)).trans h2
    have tb31:=(Rg.use_eval V fr 31 [(2,29),(4,31)] (by rw [hz];decide)).trans h4
    show Rg.Does1 _ _ V (Rg.putUse V [(2,29),(4,31)] fr) w2 _
    exact step_mv (.bool false) (by simp only [execOp,tb29,tb31];go_simp) rfl rfl rfl True.intro
   ·intro V w2 HL HH
    have h5:V 5=_:=HH.1
    have tb32:=(Rg.use_eval V fr 32 [(5,32)] (by rw [hz];decide)).trans h5
    show Rg.Does1 _ _ V (Rg.putUse V [(5,32)] fr) w2 _
    exact step_mv (.bool false) (by simp only [execOp,tb32];go_simp) rfl rfl rfl True.intro
   ·intro V w2 HL HH
    have h6:V 6=_:=HH.1
    have tb8:=(Rg.use_eval V fr 8 [(6,33)] (by rw [hz];decide)).trans y8
    show Rg.Does1 _ _ V (Rg.putUse V [(6,33)] fr) w2 _
    exact step_mv (.pointer (some ⟨pu,0,none⟩)) (by simp only [execOp,tb8];go_simp) rfl rfl rfl h6
   ·intro V w2 HL HH
    have HL:Later w3 w2:=HL
    have h6:V 6=_:=HH.1
    have h7:V 7=_:=HH.2.1
    have tb34:=(Rg.use_eval V fr 34 [(6,33),(7,34)] (by rw [hz];decide)).trans h7
    show Rg.Does1 _ _ V (Rg.putUse V [(6,33),(7,34)] fr) w2 _
    exact step_row #[.pointer (some ⟨pu,0,none⟩)] (L) (fun args w=>Rg.call_enter Tryz.func28 (by kernel_rfl) (by kernel_rfl) args w) rfl (by simp only [List.map_toArray,List.map_cons,List.map_nil,tb34]) (by rfl) rfl rfl rfl h6 (HSVU.out w2 HL)
   ·intro V w2 HL HH
    have h6:V 6=_:=HH.1
    have h8:(bRow (L)).holds (V 8) w2:=HH.2.1
    obtain ⟨X8,k8,e8,hc8,hr8⟩:=bRow_form h8
    have tb35:=(Rg.use_eval V fr 35 [(6,33),(8,35)] (by rw [hz];decide)).trans e8
    show Rg.Does1 _ _ V (Rg.putUse V [(6,33),(8,35)] fr) w2 _
    exact step_str (L) rfl tb35 (by first|rfl|simp) (hr8) rfl rfl rfl h6
   ·intro V w2 HL HH
    have h6:V 6=_:=HH.1
    have tb7:=(Rg.use_eval V fr 7 [(6,33)] (by rw [hz];decide)).trans y7
    show Rg.Does1 _ _ V (Rg.putUse V [(6,33)] fr) w2 _
    exact step_mv (.slice X2 L.length cx) (by simp only [execOp,tb7];go_simp) rfl rfl rfl h6
   ·intro V w2 HL HH
    have HL:Later w3 w2:=HL
    have h6:V 6=_:=HH.1
    have h10:V 10=.slice X2 L.length cx:=HH.2.1
    have tb37:=(Rg.use_eval V fr 37 [(6,33),(10,37)] (by rw [hz];decide)).trans h10
    show Rg.Does1 _ _ V (Rg.putUse V [(6,33),(10,37)] fr) w2 _
    exact step_str (L) rfl tb37 (by first|rfl|simp) (HRX3.out.below HL) rfl rfl rfl h6
   ·intro V w2 HL HH
    have h6:V 6=_:=HH.1
    have h9:V 9=_:=HH.2.1
    have h11:V 11=_:=HH.2.2.1
    have tb36:=(Rg.use_eval V fr 36 [(6,33),(9,36),(11,38)] (by rw [hz];decide)).trans h9
    have tb38:=(Rg.use_eval V fr 38 [(6,33),(9,36),(11,38)] (by rw [hz];decide)).trans h11
    show Rg.Does1 _ _ V (Rg.putUse V [(6,33),(9,36),(11,38)] fr) w2 _
    exact step_mv (.bool false) (by simp only [execOp,tb36,tb38];go_simp) rfl rfl rfl h6
   ·intro V w2 HL HH
    have h6:V 6=_:=HH.1
    have h12:V 12=_:=HH.2.1
    have tb33:=(Rg.use_eval V fr 33 [(6,33),(12,39)] (by rw [hz];decide)).trans h6
    have tb39:=(Rg.use_eval V fr 39 [(6,33),(12,39)] (by rw [hz];decide)).trans h12
    show Rg.Does1 _ _ V (Rg.putUse V [(6,33),(12,39)] fr) w2 _
    exact step_mv (.bool false) (by simp only [execOp,tb33,tb39];go_simp) rfl rfl rfl True.intro
   ·intro V w2 HL HH
    have h13:V 13=_:=HH.1
    have tb40:=(Rg.use_eval V fr 40 [(13,40)] (by rw [hz];decide)).trans h13
    show Rg.Does1 _ _ V (Rg.putUse V [(13,40)] fr) w2 _
    exact step_mv (.bool false) (by simp only [execOp,tb40];go_simp) rfl rfl rfl True.intro
   ·intro V w2 HL HH
    have h14:V 14=_:=HH.1
    have tb8:=(Rg.use_eval V fr 8 [(14,41)] (by rw [hz];decide)).trans y8
    show Rg.Does1 _ _ V (Rg.putUse V [(14,41)] fr) w2 _
    exact step_mv (.pointer (some ⟨pu,0,none⟩)) (by simp only [execOp,tb8];go_simp) rfl rfl rfl h14
   ·intro V w2 HL HH
    have HL:Later w3 w2:=HL
    have h14:V 14=_:=HH.1
    have h15:V 15=_:=HH.2.1
    have tb42:=(Rg.use_eval V fr 42 [(14,41),(15,42)] (by rw [hz];decide)).trans h15
    show Rg.Does1 _ _ V (Rg.putUse V [(14,41),(15,42)] fr) w2 _
    exact step_num #[.pointer (some ⟨pu,0,none⟩)] (.int .i64 (Tt.length:Nat)) (fun args w=>Rg.call_enter Tryz.func40 (by kernel_rfl) (by kernel_rfl) args w) rfl (by simp only [List.map_toArray,List.map_cons,List.map_nil,tb42]) rfl rfl rfl h14 (HCU.out w2 HL)
   ·intro V w2 HL HH
    have h14:V 14=_:=HH.1
    have tb5:=(Rg.use_eval V fr 5 [(14,41)] (by rw [hz];decide)).trans y5
    show Rg.Does1 _ _ V (Rg.putUse V [(14,41)] fr) w2 _
    exact step_mv (.pointer (some ⟨p,0,none⟩)) (by simp only [execOp,tb5];go_simp) rfl rfl rfl h14
   ·intro V w2 HL HH
    have HL:Later w3 w2:=HL
    have h14:V 14=_:=HH.1
    have h17:V 17=_:=HH.2.1
    have tb44:=(Rg.use_eval V fr 44 [(14,41),(17,44)] (by rw [hz];decide)).trans h17
    show Rg.Does1 _ _ V (Rg.putUse V [(14,41),(17,44)] fr) w2 _
    exact step_num #[.pointer (some ⟨p,0,none⟩)] (.int .i64 (Tt.length:Nat)) (fun args w=>Rg.call_enter Tryz.func40 (by kernel_rfl) (by kernel_rfl) args w) rfl (by simp only [List.map_toArray,List.map_cons,List.map_nil,tb44]) rfl rfl rfl h14 (HCT.out w2 HL)
   ·intro V w2 HL HH
    have h14:V 14=_:=HH.1
    have h16:V 16=_:=HH.2.1
    have h18:V 18=_:=HH.2.2.1
    have tb43:=(Rg.use_eval V fr 43 [(14,41),(16,43),(18,45)] (by rw [hz];decide)).trans h16
    have tb45:=(Rg.use_eval V fr 45 [(14,41),(16,43),(18,45)] (by rw [hz];decide)).trans h18
    show Rg.Does1 _ _ V (Rg.putUse V [(14,41),(16,43),(18,45)] fr) w2 _
    exact step_mv (.bool false) (by simp only [execOp,tb43,tb45];go_simp) rfl rfl rfl h14
   ·intro V w2 HL HH
    have h14:V 14=_:=HH.1
    have h19:V 19=_:=HH.2.1
    have tb41:=(Rg.use_eval V fr 41 [(14,41),(19,46)] (by rw [hz];decide)).trans h14
    have tb46:=(Rg.use_eval V fr 46 [(14,41),(19,46)] (by rw [hz];decide)).trans h19
    show Rg.Does1 _ _ V (Rg.putUse V [(14,41),(19,46)] fr) w2 _
    exact step_mv (.bool false) (by simp only [execOp,tb41,tb46];go_simp) rfl rfl rfl True.intro
  intro V w2 HI
  have vx:V 20=.bool false:=HI.get 20 (by decide) (by rfl)
  have hlt:=later_drew HI.later
  clear HI
  simp only [Rg.putList,Act.put,List.setIfInBounds_toArray,List.set_cons_zero,List.set_cons_succ,Nat.zero_add,Nat.reduceAdd]
  rw [vx]
  clear vx
  obtain ⟨w4,hw4⟩:∃ w4,w4=w2:=⟨_,rfl⟩
  rw [← hw4] at hlt ⊢
  clear hw4
  have HW2:Hid (Tm.TIn p av gs S Tt w4∧Tm.TIn pu au gu Su Tt w4∧Below w.heap.size w w4):=⟨HT3.out.below hlt,HTU.out.below hlt,HU3.out.1.trans (Below.mono hlt HU3.out.1.size)⟩
  have HSZ:Hid (w3.heap.size≤w4.heap.size):=Below.size hlt
  clear hlt HSVU HCU HCT HT3 HTU HRX3
  go_wp2_with fail
  refine (Rf.new_any w4).mono ?_
  rintro e w5 ⟨qa,na,da,ea,Da,rfl,hra,hba,hua⟩
  have HW5:Hid (Tm.TIn p av gs S Tt w5∧Tm.TIn pu au gu Su Tt w5∧Below w.heap.size w w5):=⟨HW2.out.1.below hba,HW2.out.2.1.below hba,HW2.out.2.2.trans (hba.mono HW2.out.2.2.size)⟩
  have HRA:Hid (Rf.RA qa na da ea Da Tr.new w5∧(∀ b,Rf.RS qa na ea Da b→w4.heap.size≤b)∧w4.heap.size≤w5.heap.size):=⟨hra,hua,hba.size⟩
  have HLT4:Hid ((∀ k,Tm.TrS p av S k→k<w4.heap.size)∧∀ k,Tm.TrS pu au Su k→k<w4.heap.size):=⟨fun k hk=>HW2.out.1.lt hk,fun k hk=>HW2.out.2.1.lt hk⟩
  clear hra hba hua HW2
  go_wp2_with fail
  refine (Rf.new_any w5).mono ?_
  rintro e w6 ⟨qb,nb,db,eb,Db,rfl,hrb,hbb,hub⟩
  have HST:Hid (BkI (.pointer (some ⟨p,0,none⟩)) (.pointer (some ⟨qa,0,none⟩)) (.pointer (some ⟨pu,0,none⟩)) (.pointer (some ⟨qb,0,none⟩)) w w6):=by
   obtain ⟨u1,u2,u3⟩:=HU3.out
   obtain ⟨v1,v2,v3⟩:=HW5.out
   obtain ⟨r1,r2,r3⟩:=HRA.out
   obtain ⟨l1,l2⟩:=HLT4.out
   have s1:=v3.size
   have la:∀ k,Rf.RS qa na ea Da k→k<w5.heap.size:=fun k hk=>r1.lt hk
   refine ⟨Tt,Tr.new,HG.out,Tr.new_good,Tm.TrS p av S,Rf.RS qa na ea Da,Tm.TrS pu au Su,Rf.RS qb nb eb Db,(v1.below hbb).at_,⟨_,_,_,_,_,rfl,r1.keep hbb.size fun b hb=>hbb.block b (la b hb),rfl⟩,(v2.below hbb).at_,⟨_,_,_,_,_,rfl,hrb,rfl⟩,fun k hk=>?_,fun k hk=>?_,fun k hk hb=>?_,v3.trans (hbb.mono v3.size),fun k hk=>?_⟩
   ·have h1:=u2 k hk
    have h2:=l1 k hk
    refine ⟨fun hb=>?_,fun hb=>?_,fun hb=>?_⟩
    ·have:=r2 k hb;omega
    ·have:=u3 k hb;omega
    ·have:=hub k hb;omega
   ·have h1:=r2 k hk
    have h2:=la k hk
    refine ⟨fun hb=>?_,fun hb=>?_⟩
    ·have:=l2 k hb;omega
    ·have:=hub k hb;omega
   ·have h1:=l2 k hk
    have h2:=hub k hb
    omega
   ·have h1:=u1.size
    have h2:w.heap.size≤wS.heap.size:=by have h3:=(u2 p (.inl rfl));omega
    have h3:w.heap.size≤w4.heap.size:=Nat.le_trans h1 HSZ.out
    rcases hk with hk|hk|hk|hk
    ·exact (u2 k hk).1
    ·exact Nat.le_trans h3 (r2 k hk)
    ·exact Nat.le_trans h2 (u3 k hk)
    ·exact Nat.le_trans s1 (hub k hk)
  clear hrb hbb hub HW5 HRA HLT4 HU3 HSZ HLS HG
  go_upto_block 0 with (fail)
  go_cut [] (fun wx=>∃ WX,WX=wx∧Hid (BkI (.pointer (some ⟨p,0,none⟩)) (.pointer (some ⟨qa,0,none⟩)) (.pointer (some ⟨pu,0,none⟩)) (.pointer (some ⟨qb,0,none⟩)) w WX))
  case first =>
   go_wp2_with fail
   go_loopw [12] (fun t12 wr=>∃ j:Nat,j≤qs.length∧j≤15∧t12=.int .i64 (j:Nat)∧Hid (BkI (.pointer (some ⟨p,0,none⟩)) (.pointer (some ⟨qa,0,none⟩)) (.pointer (some ⟨pu,0,none⟩)) (.pointer (some ⟨qb,0,none⟩)) w wr)) (fun t12 _=>15-(intOf t12).toNat)
   case atStart=>exact ⟨0,by omega,by omega,rfl,HST.out⟩
   case round =>
    clear HST
    obtain ⟨j,hj,hj15,rfl,HJ⟩:=hrel
    by_cases hlt:j<qs.length
    ·by_cases hlt2:j<15
     ·obtain ⟨a,haj⟩:∃ a,qs[j]?=some a:=⟨_,List.getElem?_eq_getElem hlt⟩
      obtain ⟨b,off,rfl,hok⟩:=HP.out.plain (by omega)
      have hoj:=hok j a haj
      obtain ⟨Tx,R,hGT,hGR,hF⟩:=HJ.out
      have hfar:0<a.b.length→∀ k,a.X.map (·.block)=some k→k<w.heap.size:=fun hl2 k hk=>Ob.rd_lt hoj.fit.rd hl2 hk
      have HD1:=Lib.hid (hF.do_ hGT hGR a (hoj.fit.later hF.low) hfar)
      have HD2:Hid (∀ W,Fo (.pointer (some ⟨p,0,none⟩)) (.pointer (some ⟨qa,0,none⟩)) (.pointer (some ⟨pu,0,none⟩)) (.pointer (some ⟨qb,0,none⟩)) (stepT a Tx) (stepT a R) Tx R w W→Calls Tryz.prog 33 #[.pointer (some ⟨pu,0,none⟩),.pointer (some ⟨qb,0,none⟩),a.val] W fun e w'=>(∃ b,e=.returned (.bool b))∧Hid (BkI (.pointer (some ⟨p,0,none⟩)) (.pointer (some ⟨qa,0,none⟩)) (.pointer (some ⟨pu,0,none⟩)) (.pointer (some ⟨qb,0,none⟩)) w w')):=fun W hW=>(hW.swap.do_ hGT hGR a (hoj.fit.later hW.low) hfar).mono fun e w' ⟨h1,h2⟩=>⟨h1,stepT a Tx,stepT a R,stepT_good a hGT,stepT_good a hGR,h2.out.swap⟩
      have HCELLS:Hid (∀ W,Below w.heap.size w W→∀ i v,a.cells[i]?=some v→W.cell? ((⟨b,off+j*9,none⟩:Addr).add i)=some v):=fun W hW i v hv=>by
       rw [add_plain]
       exact hoj.at_ hW i v hv
      have HLOW:=Lib.hid hF.low
      clear hok hoj hGT hGR hF hfar HJ
      go_wp2_with (refine wpList_load_part rfl 56 (.tmp 64) rfl ⟨b,off+j*9,none⟩ rfl a.cells _ (HCELLS.out _ HLOW.out) Tryz.underlying56 rfl (by kernel_rfl) ?_)
      refine HD1.out.mono ?_
      rintro e w7 ⟨⟨b7,rfl⟩,HF7⟩
      have HLOW7:=Lib.hid HF7.out.low
      have HC2:=Lib.hid (HD2.out w7 HF7.out)
      clear HD1 HD2 HF7 HLOW
      go_wp2_with (refine wpList_load_part rfl 56 (.tmp 71) rfl ⟨b,off+j*9,none⟩ rfl a.cells _ (HCELLS.out _ HLOW7.out) Tryz.underlying56 rfl (by kernel_rfl) ?_)
      refine HC2.out.mono ?_
      rintro e w8 ⟨⟨b8,rfl⟩,HF8⟩
      clear HC2 HLOW7 HCELLS
      go_wp2_with fail
      go_roundw
      case rel=>exact ⟨j+1,by omega,by omega,by go_num,HF8⟩
      case measure=>simp [intOf];omega
     ·go_wp2_with fail
      go_meet
      case rel=>exact ⟨_,rfl,HJ⟩
    ·go_wp2_with fail
     go_meet
     case rel=>exact ⟨_,rfl,HJ⟩
  case rest =>
  obtain ⟨wr,hwr,HJ⟩:=hcut
  subst hwr
  obtain ⟨Tx,R,hGT,hGR,hF⟩:=HJ.out
  obtain ⟨B1,B2,B3,B4,t1,_,t3,_,_,_,_,hlow,_⟩:=hF
  obtain ⟨p1,av1,gs1,S1,hp1,hT1,_⟩:=t1
  injection hp1 with hp1
  injection hp1 with hp1
  injection hp1 with hp1
  subst hp1
  obtain ⟨p3,av3,gs3,S3,hp3,hT3,_⟩:=t3
  injection hp3 with hp3
  injection hp3 with hp3
  injection hp3 with hp3
  subst hp3
  obtain ⟨L9,hL9⟩:∃ L9,L9=Tr.save Tx:=⟨_,rfl⟩
  have HSA:Hid (∀ W,Below wr.heap.size wr W→Calls Tryz.prog 28 #[.pointer (some ⟨p,0,none⟩)] W fun e w'=>∃ v,e=.returned v∧w'.ownsRow W.heap.size 5 1 v L9.length (Lib.byteCells L9)∧Below W.heap.size W w'):=fun W hW=>(Tm.save_any (hT1.below hW) hGT).mono fun e w' ⟨X9,c9,h1,_,_,h2,h3⟩=>by
   rw [← hL9] at h1 h2
   exact ⟨_,h1,h2,h3⟩
  have HSB:Hid (∀ W,Below wr.heap.size wr W→Calls Tryz.prog 28 #[.pointer (some ⟨pu,0,none⟩)] W fun e w'=>∃ v,e=.returned v∧w'.ownsRow W.heap.size 5 1 v L9.length (Lib.byteCells L9)∧Below W.heap.size W w'):=fun W hW=>(Tm.save_any (hT3.below hW) hGT).mono fun e w' ⟨X9,c9,h1,_,_,h2,h3⟩=>by
   rw [← hL9] at h1 h2
   exact ⟨_,h1,h2,h3⟩
  have HKN:=Lib.hid (fun W=>Tm.known_any W)
  have HLOW:=Lib.hid hlow
  clear hT1 hT3 hGT hGR HJ hL9 hlow
  go_upto_region 15 with (fail)
  refine Rg.wp_region_facts (by kernel_rfl) (fun opn=>List.getD [Rg.val (.pointer (some ⟨p,0,none⟩)),bRow (L9),Rg.val (.string (strOf (L9))),Rg.val (.pointer (some ⟨pu,0,none⟩)),bRow (L9),Rg.val (.string (strOf (L9))),Rg.val (.bool true),Rg.val (.bool true),Rg.val (.bool true),Rg.val (.bool true),Rg.val (.bool true)] opn Rg.any) [] [[],[(0,74)],[(1,75)],[],[(3,77)],[(4,78)],[(2,76),(5,79)],[(6,80)],[(7,81)],[(7,81),(8,82)],[(9,83)]] [] (by kernel_rfl) (by rfl) (by kernel_rfl) ?_ ?_
  ·intro fr ha
   have hz:fr.tmps.size=84:=by rw [ha];rfl
   have y5:fr.eval (.tmp 5)=.pointer (some ⟨p,0,none⟩):=by rw [ha];rfl
   have y8:fr.eval (.tmp 8)=.pointer (some ⟨pu,0,none⟩):=by rw [ha];rfl
   clear ha
   refine .cons ?_ (.cons ?_ (.cons ?_ (.cons ?_ (.cons ?_ (.cons ?_ (.cons ?_ (.cons ?_ (.cons ?_ (.cons ?_ (.cons ?_ (.nil)))))))))))
   ·intro V w2 HL HH
    have tb5:=(Rg.use_eval V fr 5 [] (by rw [hz];decide)).trans y5
    show Rg.Does1 _ _ V (Rg.putUse V [] fr) w2 _
    exact step_mv (.pointer (some ⟨p,0,none⟩)) (by simp only [execOp,tb5];go_simp) rfl rfl rfl True.intro
   ·intro V w2 HL HH
    have HL:Later wr w2:=HL
    have h0:V 0=_:=HH.1
    have tb74:=(Rg.use_eval V fr 74 [(0,74)] (by rw [hz];decide)).trans h0
    show Rg.Does1 _ _ V (Rg.putUse V [(0,74)] fr) w2 _
    exact step_row #[.pointer (some ⟨p,0,none⟩)] (L9) (fun args w=>Rg.call_enter Tryz.func28 (by kernel_rfl) (by kernel_rfl) args w) rfl (by simp only [List.map_toArray,List.map_cons,List.map_nil,tb74]) (by rfl) rfl rfl rfl True.intro (HSA.out w2 HL)
   ·intro V w2 HL HH
    have h1:(bRow (L9)).holds (V 1) w2:=HH.1
    obtain ⟨X1,k1,e1,hc1,hr1⟩:=bRow_form h1
    have tb75:=(Rg.use_eval V fr 75 [(1,75)] (by rw [hz];decide)).trans e1
    show Rg.Does1 _ _ V (Rg.putUse V [(1,75)] fr) w2 _
    exact step_str (L9) rfl tb75 (by first|rfl|simp) (hr1) rfl rfl rfl True.intro
   ·intro V w2 HL HH
    have tb8:=(Rg.use_eval V fr 8 [] (by rw [hz];decide)).trans y8
    show Rg.Does1 _ _ V (Rg.putUse V [] fr) w2 _
    exact step_mv (.pointer (some ⟨pu,0,none⟩)) (by simp only [execOp,tb8];go_simp) rfl rfl rfl True.intro
   ·intro V w2 HL HH
    have HL:Later wr w2:=HL
    have h3:V 3=_:=HH.1
    have tb77:=(Rg.use_eval V fr 77 [(3,77)] (by rw [hz];decide)).trans h3
    show Rg.Does1 _ _ V (Rg.putUse V [(3,77)] fr) w2 _
    exact step_row #[.pointer (some ⟨pu,0,none⟩)] (L9) (fun args w=>Rg.call_enter Tryz.func28 (by kernel_rfl) (by kernel_rfl) args w) rfl (by simp only [List.map_toArray,List.map_cons,List.map_nil,tb77]) (by rfl) rfl rfl rfl True.intro (HSB.out w2 HL)
   ·intro V w2 HL HH
    have h4:(bRow (L9)).holds (V 4) w2:=HH.1
    obtain ⟨X4,k4,e4,hc4,hr4⟩:=bRow_form h4
    have tb78:=(Rg.use_eval V fr 78 [(4,78)] (by rw [hz];decide)).trans e4
    show Rg.Does1 _ _ V (Rg.putUse V [(4,78)] fr) w2 _
    exact step_str (L9) rfl tb78 (by first|rfl|simp) (hr4) rfl rfl rfl True.intro
   ·intro V w2 HL HH
    have h2:V 2=_:=HH.1
    have h5:V 5=_:=HH.2.1
    have tb76:=(Rg.use_eval V fr 76 [(2,76),(5,79)] (by rw [hz];decide)).trans h2
    have tb79:=(Rg.use_eval V fr 79 [(2,76),(5,79)] (by rw [hz];decide)).trans h5
    show Rg.Does1 _ _ V (Rg.putUse V [(2,76),(5,79)] fr) w2 _
    exact step_mv (.bool true) (by simp only [execOp,tb76,tb79];go_simp) rfl rfl rfl True.intro
   ·intro V w2 HL HH
    have h6:V 6=_:=HH.1
    have tb80:=(Rg.use_eval V fr 80 [(6,80)] (by rw [hz];decide)).trans h6
    show Rg.Does1 _ _ V (Rg.putUse V [(6,80)] fr) w2 _
    exact step_mv (.bool true) (by simp only [execOp,tb80];go_simp) rfl rfl rfl True.intro
   ·intro V w2 HL HH
    have h7:V 7=_:=HH.1
    show Rg.Does1 _ _ V (Rg.putUse V [(7,81)] fr) w2 _
    exact step_num #[] (.bool true) (fun args w=>Rg.call_enter Tryz.func32 (by kernel_rfl) (by kernel_rfl) args w) rfl (by simp only [List.map_toArray,List.map_nil]) rfl rfl rfl h7 (HKN.out w2)
   ·intro V w2 HL HH
    have h7:V 7=_:=HH.1
    have h8:V 8=_:=HH.2.1
    have tb81:=(Rg.use_eval V fr 81 [(7,81),(8,82)] (by rw [hz];decide)).trans h7
    have tb82:=(Rg.use_eval V fr 82 [(7,81),(8,82)] (by rw [hz];decide)).trans h8
    show Rg.Does1 _ _ V (Rg.putUse V [(7,81),(8,82)] fr) w2 _
    exact step_mv (.bool true) (by simp only [execOp,tb81,tb82];go_simp) rfl rfl rfl True.intro
   ·intro V w2 HL HH
    have h9:V 9=_:=HH.1
    have tb83:=(Rg.use_eval V fr 83 [(9,83)] (by rw [hz];decide)).trans h9
    show Rg.Does1 _ _ V (Rg.putUse V [(9,83)] fr) w2 _
    exact step_mv (.bool true) (by simp only [execOp,tb83];go_simp) rfl rfl rfl True.intro
  intro V w2 HI
  have vx:V 10=.bool true:=HI.get 10 (by decide) (by rfl)
  have hlt:=later_drew HI.later
  clear HI
  simp only [Rg.putList,Act.put,List.setIfInBounds_toArray,List.set_cons_zero,List.set_cons_succ,Nat.zero_add,Nat.reduceAdd]
  rw [vx]
  clear vx
  obtain ⟨w4,hw4⟩:∃ w4,w4=w2:=⟨_,rfl⟩
  rw [← hw4] at hlt ⊢
  clear hw4
  have HFIN:Hid (Below w.heap.size w w4):=HLOW.out.trans (Below.mono hlt HLOW.out.size)
  clear hlt HLOW
  go_wp2_with fail
  first|exact ⟨rfl,HFIN.out⟩|(go_ret;exact ⟨rfl,HFIN.out⟩)
 ·exact absurd HLS.out.symm (hno Tt HG.out HSL.out)
end Tw
end Go.Proofs.YtjoedamiilgajaaGreat
