/-
  OWN WORK. Law 11's TreeLoads, walked: any bytes are a tree's own Save, or refused.
-/
import Derived.Test.YtjoedamiilgajaaGreatQTsLoad
import Derived.Test.YtjoedamiilgajaaGreatQTsSlim
import Derived.Test.YtjoedamiilgajaaGreatQTwObj
import Derived.Test.YtjoedamiilgajaaGreatQRfSave
import Derived.Test.YtjoedamiilgajaaGreatQBaRoomy
import Derived.Test.YtjoedamiilgajaaGreatQBaWithin
import Derived.Test.YtjoedamiilgajaaGreatQ01
import Derived.Test.YtjoedamiilgajaaGreatQBaCut
import Derived.Test.YtjoedamiilgajaaGreatQ02
namespace Go.Proofs.YtjoedamiilgajaaGreat
open Go.RowKit Rc
open Tr (Nm En T)
namespace Tr
theorem names_small:∀ (l:List Nm),(∀ n ∈ l,n.1.length≤1)→(l.flatMap nameBytes).length≤l.length*5
 | [],_=>by simp
 | n :: l,h=>by
   have h1:=names_small l fun n hn=>h n (.tail _ hn)
   have h2:=h n (.head _)
   rw [List.flatMap_cons,List.length_append,List.length_cons]
   have h3:(nameBytes n).length≤5:=by
    unfold nameBytes
    rw [List.length_append,Rf.wBytes_len (by omega)]
    have:(Co.wS (Nd.lo16 n.2)).length=2:=rfl
    omega
   omega
theorem ens_small:∀ (t:T),(∀ e ∈ t,e.data.length≤4096∧e.names.length≤257∧∀ n ∈ e.names,n.1.length≤1)→(t.flatMap enBytes).length≤t.length*6000
 | [],_=>by simp
 | e :: t,h=>by
   have h1:=ens_small t fun n hn=>h n (.tail _ hn)
   obtain ⟨h2,h3,h4⟩:=h e (.head _)
   have h5:=names_small e.names h4
   rw [List.flatMap_cons,List.length_append,List.length_cons]
   have h6:(enBytes e).length≤6000:=by
    unfold enBytes
    simp only [List.length_append]
    rw [Rf.wBytes_len (by rw [Nd.bytes_length];omega),Rf.wBytes_len (by omega),Nd.bytes_length]
    have:(Co.wS e.names.length).length=2:=rfl
    omega
   omega
theorem save_small {t:T} (hG:Good t) (hS:Short t):2≤(save t).length∧(save t).length≤400000:=by
 have h1:=ens_small t fun e he=>by
  have h2:=hG.each e he
  have h3:=h2.nd.2.2.2.2.2.1
  have h4:=h2.size
  exact ⟨by omega,short_few h2.rise (hS e he),hS e he⟩
 have h2:=hG.few
 have h3:(Co.wS t.length).length=2:=rfl
 unfold save
 rw [List.length_append,h3]
 omega
end Tr
theorem bits_xor_u8 (a b:Nat) (ha:a<256) (hb:b<256):bits .xor .u8 (a:Int) (b:Int)=((a ^^^ b:Nat):Int):=by
 show IntKind.u8.wrap ((BitVec.ofInt 8 (a:Int) ^^^ BitVec.ofInt 8 (b:Int)).toNat:Int)=_
 rw [IntKind.wrap_u8',BitVec.toNat_xor,BitVec.ofInt_natCast,BitVec.ofInt_natCast,BitVec.toNat_ofNat,BitVec.toNat_ofNat,Nat.mod_eq_of_lt ha,Nat.mod_eq_of_lt hb]
 have:a ^^^ b<2 ^ 8:=Nat.xor_lt_two_pow ha hb
 omega
namespace Tw
open Ts (LoadOut load_any)
structure Three (rb:Nat) (ys:List (Option Addr × Bs × Nat)) (w:World):Prop where
 len:ys.length=3
 at_:∀ k z,ys[k]?=some z→w.cell? ⟨rb,k,none⟩=some (.slice z.1 z.2.1.length z.2.2)∧Rd w z.1 z.2.1∧z.2.1.length≤z.2.2∧z.2.1.length≤1000000
 lt:rb<w.heap.size
theorem Three.below {rb:Nat} {ys:List (Option Addr × Bs × Nat)} {w w':World} (h:Three rb ys w) (hb:Below w.heap.size w w'):Three rb ys w' :=
 ⟨h.len,fun k z hz=>by
  obtain ⟨h1,h2,h3⟩:=h.at_ k z hz
  exact ⟨(World.cell?_of_block (hb.block rb h.lt)).trans h1,h2.below hb,h3⟩,Nat.lt_of_lt_of_le h.lt hb.size⟩
structure Kp (q:Nat) (Tt:T) (w0 w:World):Prop where
 good:Tr.Good Tt
 short:Tr.Short Tt
 r:∃ nv dv ev D,Rf.RA q nv dv ev D Tt w
 low:Below w0.heap.size w0 w
theorem Kp.below {q:Nat} {Tt:T} {w0 w w':World} (h:Kp q Tt w0 w) (hb:Below w.heap.size w w'):Kp q Tt w0 w':=by
 obtain ⟨nv,dv,ev,D,hr⟩:=h.r
 exact ⟨h.good,h.short,⟨nv,dv,ev,D,hr.keep hb.size fun b hB=>hb.block b (hr.lt hB)⟩,h.low.trans (hb.mono h.low.size)⟩
theorem Kp.save {q:Nat} {Tt:T} {w0 w:World} (h:Kp q Tt w0 w):Calls Tryz.prog 29 #[.pointer (some ⟨q,0,none⟩)] w (Tm.SvAns (Tr.save Tt) w):=by
 obtain ⟨nv,dv,ev,D,hr⟩:=h.r
 exact Rf.save_any hr h.good
set_option maxHeartbeats 4000000 in
set_option maxRecDepth 100000 in
theorem lawLoads_any (w:World) (ps:List AskT) (A:Option Addr) (c1:Nat) (hp:AsksT w A ps) (hl:ps.length≤9223372036854775807) (X:Option Addr) (b:Bs) (cb:Nat) (hb:Rd w X b) (hbc:b.length≤cb) (hbl:b.length≤9223372036854775807) (at_:Int) (ha0:-9223372036854775808≤at_) (ha1:at_≤9223372036854775807) (tu:UInt8) (cut:Bool) :
    Calls Tryz.prog 6 #[.slice A ps.length c1,.slice X b.length cb,.int .i64 at_,.int .u8 (tu.toNat:Nat),.bool cut] w fun e w'=>e=.returned (.bool true)∧Below w.heap.size w w':=by
 have HPL:=Lib.hid (played_any w ps A c1 hp hl)
 have HRB:=Lib.hid hb
 have HBC:Hid (b.length≤cb∧b.length≤9223372036854775807):=⟨hbc,hbl⟩
 clear hp hl hb hbc hbl
 go_enter Tryz.func6,Tryz.ntmps6
 go_wp2_with fail
 refine HPL.out.mono ?_
 rintro e w1 ⟨p,q,Tt,B1,B2,rfl,hpl⟩
 have HK1:Hid (Kp q Tt w w1):=by
  obtain ⟨q',nv,dv,ev,D,hq,hr,_⟩:=hpl.r
  injection hq with hq
  injection hq with hq
  injection hq with hq
  subst hq
  exact ⟨hpl.good,hpl.short,⟨nv,dv,ev,D,hr⟩,hpl.low⟩
 clear hpl HPL
 go_wp2_with fail
 refine HK1.out.save.mono ?_
 rintro e w2 ⟨X2,c2,rfl,hc2,_,ho2,hb2⟩
 have HK2:Hid (Kp q Tt w w2):=HK1.out.below hb2
 obtain ⟨L,hL⟩:∃ L,L=Tr.save Tt:=⟨_,rfl⟩
 rw [← hL] at hc2 ho2 ⊢
 have hLs:2≤L.length∧L.length≤400000:=by rw [hL];exact Tr.save_small HK1.out.good HK1.out.short
 obtain ⟨gx,rfl⟩:=own_addr ho2 (by omega)
 have HO2:Hid (w2.ownsRow w.heap.size 5 1 (.slice (some ⟨gx,0,none⟩) L.length c2) L.length (Lib.byteCells L)):=own_mono ho2 HK1.out.low.size
 have HL2:Hid (2≤L.length∧L.length≤400000∧L.length≤c2):=⟨hLs.1,hLs.2,hc2⟩
 have HG1:Hid (w1.heap.size≤gx∧Below w1.heap.size w1 w2):=⟨(own_lt ho2 rfl).1,hb2⟩
 clear hL ho2 hb2 hc2 HK2
 go_wp2_with fail
 refine (within_nat at_ 0 ((L.length:Int)-1) 0 (L.length-1) w2 rfl (by have:=HL2.out.1;omega) (by omega) (by have:=HL2.out.2.1;omega) ha0 ha1).mono ?_
 rintro e w3 ⟨k,_,hk0,rfl,rfl⟩
 have hk:k<L.length:=by have:=HL2.out.1;omega
 clear hk0 hLs
 have cx:=own_byte HO2.out k hk
 have fx:=own_frozen HO2.out k
 obtain ⟨xb,hxb⟩:∃ z:Nat,z=(L.getD k 0).toNat:=⟨_,rfl⟩
 have lb:xb<256:=by rw [hxb];exact (L.getD k 0).toNat_lt
 obtain ⟨z,hz⟩:∃ z:Nat,z=xb ^^^ tu.toNat:=⟨_,rfl⟩
 have hx1:=bits_xor_u8 xb tu.toNat lb tu.toNat_lt
 rw [← hxb] at cx
 rw [← hz] at hx1
 have hk2:(k:Int)<(L.length:Int):=by omega
 have HOZ:Hid ((w2.setCell ⟨gx,k,none⟩ (.int .u8 ((z:Nat):Int))).ownsRow w.heap.size 5 1 (.slice (some ⟨gx,0,none⟩) L.length c2) L.length (Lib.byteCells (L.set k (L.getD k 0 ^^^ tu)))):=own_set HO2.out k hk (L.getD k 0 ^^^ tu) ((z:Nat):Int) (by rw [UInt8.toNat_xor,← hxb,hz])
 obtain ⟨L',hL'⟩:∃ L',L'=L.set k (L.getD k 0 ^^^ tu):=⟨_,rfl⟩
 have hLL:L'.length=L.length:=by rw [hL',List.length_set]
 rw [← hL'] at HOZ
 have HKZ:Hid (Kp q Tt w (w2.setCell ⟨gx,k,none⟩ (.int .u8 ((z:Nat):Int)))):=HK1.out.below (below_set1 HG1.out.2 HG1.out.1 _ _)
 have HRZ:Hid (Rd (w2.setCell ⟨gx,k,none⟩ (.int .u8 ((z:Nat):Int))) (some ⟨gx,0,none⟩) L'):=by
  have h1:=HOZ.out
  rw [← hLL] at h1
  obtain ⟨X',c',e,_,hr⟩:=oF h1
  injection e with e1
  rw [e1]
  exact hr
 have HLZ:Hid (L'.length=L.length∧L.length≤400000∧L.length≤c2∧k<L.length):=⟨hLL,HL2.out.2.1,HL2.out.2.2,hk⟩
 clear hxb hz lb hL' hLL HO2 HOZ HL2 HK1 HG1
 go_upto_if 43 with (fail)
 clear cx fx hx1
 obtain ⟨w4,hw4⟩:∃ w4,w4=w2.setCell ⟨gx,k,none⟩ (.int .u8 ((z:Nat):Int)):=⟨_,rfl⟩
 rw [← hw4] at HKZ HRZ ⊢
 clear hw4
 go_cut [13] (fun t13 wx=>∃ (W:World) (y0:Bs),W=wx∧t13=.slice (some ⟨gx,0,none⟩) y0.length c2∧Hid (Kp q Tt w W)∧Hid (Rd W (some ⟨gx,0,none⟩) y0∧y0.length≤400000∧y0.length≤c2)∧Hid (Rd W X b))
 case first =>
  have HRB4:Hid (Rd w4 X b):=HRB.out.below HKZ.out.low
  cases cut
  ·go_wp2_with fail
   go_meet
   case rel=>exact ⟨_,L',rfl,by rw [HLZ.out.1],HKZ.out,⟨HRZ.out,by have:=HLZ.out;omega,by have:=HLZ.out;omega⟩,HRB4.out⟩
  ·have hk3:k≤L.length:=by have:=HLZ.out;omega
   have hkc:(k:Int)≤(c2:Int):=by have:=HLZ.out;omega
   have HLK:Hid ((L'.take k).length=k):=by show _=_;rw [List.length_take];have:=HLZ.out;omega
   go_wp2_with fail
   go_meet
   case rel=>exact ⟨_,L'.take k,rfl,by rw [HLK.out],HKZ.out,⟨HRZ.out.take k,by rw [HLK.out];have:=HLZ.out;omega,by rw [HLK.out];have:=HLZ.out;omega⟩,HRB4.out⟩
 case rest =>
 obtain ⟨w5,y0,hw5,rfl,HK5,HY0,HRB5⟩:=hcut
 subst hw5
 clear HRB HKZ HRZ HLZ
 obtain ⟨i0,hi,hz0,hz1,hz2⟩:=info_parts Tryz.infoU8
 have HI0:=Lib.hid hi
 have HZ0:=Lib.hid hz0
 have HZ1:=Lib.hid hz1
 have HZ2:=Lib.hid hz2
 clear hi hz0 hz1 hz2
 have HCU:=Lib.hid (fun n (hn:n≤1000000)=>cut_any X b cb n HBC.out.1 hn HBC.out.2)
 go_wp2_with fail
 refine (HCU.out 100 (by omega) _).mono ?_
 rintro e _ ⟨rfl,rfl⟩
 obtain ⟨y1,hy1⟩:∃ y1,y1=b.take 100:=⟨_,rfl⟩
 have HY1:Hid (Rd w5 X y1∧y1.length≤100∧y1.length≤cb):=by rw [hy1];exact ⟨HRB5.out.take 100,by rw [List.length_take];omega,by rw [List.length_take];have:=HBC.out.1;omega⟩
 rw [← hy1]
 clear hy1
 obtain ⟨w6,hw6⟩:∃ w6,w6=w5.alloc (.cells #[] 5):=⟨_,rfl⟩
 have HM6:Hid (MAt w5.heap.size (.slice (some ⟨w5.heap.size,0,none⟩) 0 0) [] w5 w6):=by rw [hw6];exact MAt.empty w5
 have HY6:Hid (Rd w6 (some ⟨gx,0,none⟩) y0):=HY0.out.1.below HM6.out.2.1
 have hy0l:y0.length≤400000:=HY0.out.2.1
 go_wp2_with (rw [← hw6];at_builtin;refine wpList_append_rd rfl (.tmp 50) (.tmp 51) 39 rfl w5.heap.size 5 i0 Tryz.underlying39 HI0.out HZ0.out HZ1.out HZ2.out _ 0 [] rfl HM6.out.1 (some ⟨gx,0,none⟩) y0 y0.length c2 rfl rfl HY6.out (by omega) HM6.out.2.1.size ?_;intro v7 w7 HO7 HG7;have HM7:Hid (MAt w5.heap.size v7 y0 w5 w7):=HM6.out.push (Below.refl _ _) HO7.out HG7.out;obtain ⟨P7,c7,rfl,_,_⟩:=oF HM7.out.1)
 clear HO7 HG7 HM6 HY6 hw6
 refine (HCU.out 3 (by omega) _).mono ?_
 rintro e _ ⟨rfl,rfl⟩
 obtain ⟨y3,hy3⟩:∃ y3,y3=b.take 3:=⟨_,rfl⟩
 have HY3:Hid (Rd w7 X y3∧y3.length≤3):=by rw [hy3];exact ⟨(HRB5.out.below HM7.out.2.1).take 3,by rw [List.length_take];omega⟩
 have hy3l:y3.length≤3:=HY3.out.2
 rw [← hy3]
 clear hy3 HCU
 go_wp2_with (at_builtin;refine wpList_append_rd rfl (.tmp 52) (.tmp 54) 39 rfl w5.heap.size 5 i0 Tryz.underlying39 HI0.out HZ0.out HZ1.out HZ2.out _ y0.length (Lib.byteCells y0) rfl HM7.out.1 X y3 y3.length cb rfl rfl HY3.out.1 (by omega) HM7.out.2.1.size ?_;intro v8 w8 HO8 HG8;have HM8:Hid (MAt w5.heap.size v8 (y0++y3) w5 w8):=HM7.out.push (Below.refl _ _) HO8.out HG8.out;obtain ⟨y2,hy2⟩:∃ y2,y2=y0++y3:=⟨_,rfl⟩;have HL2Y:Hid (y2.length≤400003):=(by show _≤_;rw [hy2,List.length_append];omega);rw [← hy2] at HM8;clear hy2;obtain ⟨P8,c8,rfl,hc8,hr8⟩:=oF HM8.out.1;have HR8:Hid (Rd w8 P8 y2∧y2.length≤c8):=⟨hr8,hc8⟩;clear hc8 hr8)
 obtain ⟨w9,hw9⟩:∃ w9,w9=w8.alloc (.cells #[.slice (some ⟨gx,0,none⟩) y0.length c2,.slice X y1.length cb,.slice P8 y2.length c8] 39):=⟨_,rfl⟩
 obtain ⟨rb,hrb⟩:∃ rb,rb=w8.heap.size:=⟨_,rfl⟩
 have hb9:Below w8.heap.size w8 w9:=by rw [hw9];exact bN w8 _
 have hbk:Blk w9 rb 39 [.slice (some ⟨gx,0,none⟩) y0.length c2,.slice X y1.length cb,.slice P8 y2.length c8]:=by rw [hw9,hrb];exact Blk.new w8 _ _
 have h58:Below w5.heap.size w5 w9:=HM8.out.2.1.trans (hb9.mono HM8.out.2.1.size)
 have HTH:Hid (Three rb [(some ⟨gx,0,none⟩,y0,c2),(X,y1,cb),(P8,y2,c8)] w9):=by
  refine ⟨rfl,fun k z hz=>?_,hbk.lt⟩
  match k,hz with
  | 0,hz=>injection hz with hz;subst hz;exact ⟨hbk.cell 0,HY0.out.1.below h58,HY0.out.2.2,by have:=HY0.out.2.1;show y0.length≤_;omega⟩
  | 1,hz=>injection hz with hz;subst hz;exact ⟨hbk.cell 1,HY1.out.1.below h58,HY1.out.2.2,by have:=HY1.out.2.1;show y1.length≤_;omega⟩
  | 2,hz=>injection hz with hz;subst hz;exact ⟨hbk.cell 2,HR8.out.1.below hb9,HR8.out.2,by have:=HL2Y.out;show y2.length≤_;omega⟩
  | k+3,hz=>cases hz
 have HK9:Hid (Kp q Tt w w9):=HK5.out.below h58
 obtain ⟨ys,hys⟩:∃ ys,ys=[((some ⟨gx,0,none⟩:Option Addr),y0,c2),(X,y1,cb),(P8,y2,c8)]:=⟨_,rfl⟩
 rw [← hys] at HTH
 rw [← hw9,← hrb]
 clear hys hw9 hrb hb9 hbk h58 HM8 HR8 HO8 HG8 HM7 HY3 HY1 HY0 HRB5 HK5 hy0l hy3l HBC HI0 HZ0 HZ1 HZ2
 go_loopw [16,17,18,19,58] (fun t16 t17 t18 t19 t58 wr=>∃ (j:Nat) (v16 v17 v18 v19:Value),t16=v16∧t17=v17∧t18=v18∧t19=v19∧t58=.int .i64 j∧j≤3∧Hid (Below w9.heap.size w9 wr)) (fun _ _ _ _ t58 _=>3-(match t58 with|.int _ k=>k.toNat|_=>0))
 case atStart=>exact ⟨0,_,_,_,_,rfl,rfl,rfl,rfl,rfl,by omega,Below.refl _ _⟩
 case round =>
  obtain ⟨j,v16,v17,v18,v19,rfl,rfl,rfl,rfl,rfl,hj,HB9⟩:=hrel
  by_cases hk:j<3
  ·have hlt2:(j:Int)<3:=by omega
   obtain ⟨⟨Y,y,cy⟩,hz⟩:∃ z,ys[j]?=some z:=⟨_,List.getElem?_eq_getElem (by rw [HTH.out.len];exact hk)⟩
   obtain ⟨hc1,hry,hyc,hyl⟩:=(HTH.out.below HB9.out).at_ j _ hz
   dsimp only at hc1 hry hyc hyl
   have HYR0:=Lib.hid hry
   clear hz hry
   go_wp2_with fail
   refine (roomy_any y Y cy wr HYR0.out (by omega)).mono ?_
   rintro e wA ⟨gF,rfl,hroom⟩
   have HFA:Hid (Rd wA (some ⟨gF,0,none⟩) (y++List.replicate 80 165)):=room_rd hroom
   have hbA:=hroom.2.1
   have HYA:Hid (Rd wA Y y):=HYR0.out.below hbA
   have HBA:Hid (Below w9.heap.size w9 wA):=HB9.out.trans (hbA.mono HB9.out.size)
   have HFY:Hid (Rd wA (some ⟨gF,0,none⟩) y):=by
    have:=HFA.out.take y.length
    rw [List.take_left] at this
    exact this
   have hyl80:(y.length:Int)≤(y.length:Int)+80:=by omega
   have HLOAD:=Lib.hid (load_any wA (some ⟨gF,0,none⟩) y (y.length+80) HFY.out (by omega))
   have HINT:=Lib.hid (fun W (hW:Below wA.heap.size wA W)=>intact_any y (some ⟨gF,0,none⟩) Y (y.length+80) cy W (HFA.out.below hW) (by omega) (HYA.out.below hW) (by omega))
   clear hroom hbA HYR0 HB9 hc1 HFA HFY
   go_wp2_with fail
   refine HLOAD.out.mono ?_
   rintro e wB ⟨hbB,⟨t,pt,av,gs,S,hG,hS,hsv,rfl,hT,_⟩|⟨hno,rfl⟩⟩
   ·have HBB:Hid (Below w9.heap.size w9 wB):=HBA.out.trans (hbB.mono HBA.out.size)
    have HI2:=Lib.hid (HINT.out wB hbB)
    have HT:=Lib.hid hT
    have HG:=Lib.hid hG
    have HSV0:Hid (Tr.save t=y):=hsv
    have HYB:Hid (Rd wB Y y):=HYA.out.below hbB
    clear hbB hT hG hS hsv HLOAD HINT HBA HYA
    go_wp2_with fail
    refine HI2.out.mono ?_
    rintro e wC ⟨rfl,nC,hwC⟩
    obtain ⟨wd,hwd⟩:∃ wd,wd=wC:=⟨_,rfl⟩
    have HBD:Hid (Below w9.heap.size w9 wC):=by rw [hwC];exact ⟨HBB.out.os,HBB.out.tape,HBB.out.output,HBB.out.size,HBB.out.block⟩
    have HTD:Hid (Tm.TIn pt av gs S t wC):=by rw [hwC];exact HT.out.keep fun _ _=>rfl
    have HYR:Hid (Rd wC Y y):=by rw [hwC];exact HYB.out.below ⟨rfl,rfl,rfl,Nat.le_refl _,fun _ _=>rfl⟩
    clear hwC hwd HBB HT HYB HI2
    have HSV:Hid (∀ W,Below wC.heap.size wC W→Calls Tryz.prog 28 #[.pointer (some ⟨pt,0,none⟩)] W fun e w'=>∃ v,e=.returned v∧w'.ownsRow W.heap.size 5 1 v y.length (Lib.byteCells y)∧Below W.heap.size W w'):=fun W hW=>(Tm.save_any (HTD.out.below hW) HG.out).mono fun e w' ⟨X9,c9,h1,_,_,h2,h3⟩=>by
     rw [show Tr.save t=y from HSV0.out] at h1 h2
     exact ⟨_,h1,h2,h3⟩
    have HSN:Hid (∀ W,Below wC.heap.size wC W→Calls Tryz.prog 44 #[.pointer (some ⟨pt,0,none⟩)] W fun e w'=>e=.returned (.bool true)∧Below W.heap.size W w'):=fun W hW=>sound_any (HTD.out.below hW) HG.out
    go_upto_region 15 with (fail)
    refine Rg.wp_region_facts (by kernel_rfl) (fun opn=>List.getD [Rg.val (.pointer (some ⟨pt,0,none⟩)),bRow (y),Rg.val (.string (strOf (y))),Rg.val (.slice Y y.length cy),Rg.val (.string (strOf (y))),Rg.val (.bool false),Rg.val (.bool false),Rg.val (.pointer (some ⟨pt,0,none⟩)),Rg.val (.bool true),Rg.val (.bool false),Rg.val (.bool false)] opn Rg.any) [] [[],[(0,93)],[(1,94)],[],[(3,96)],[(2,95),(4,97)],[(5,98)],[(6,99)],[(6,99),(7,100)],[(6,99),(8,101)],[(6,99),(9,102)]] [] (by kernel_rfl) (by rfl) (by kernel_rfl) ?_ ?_
    ·intro fr ha
     have hz:fr.tmps.size=120:=by rw [ha];rfl
     have y16:fr.eval (.tmp 16)=.slice Y y.length cy:=by rw [ha];rfl
     have y18:fr.eval (.tmp 18)=.pointer (some ⟨pt,0,none⟩):=by rw [ha];rfl
     clear ha
     refine .cons ?_ (.cons ?_ (.cons ?_ (.cons ?_ (.cons ?_ (.cons ?_ (.cons ?_ (.cons ?_ (.cons ?_ (.cons ?_ (.cons ?_ (.nil)))))))))))
     ·intro V w2 HL HH
      have tb18:=(Rg.uE V fr 18 [] (by rw [hz];decide)).trans y18
      show Rg.Dz _ _ V (Rg.pU V [] fr) w2 _
      exact step_mv (.pointer (some ⟨pt,0,none⟩)) (by simp only [execOp,tb18];go_simp) rfl rfl rfl True.intro
     ·intro V w2 HL HH
      have HL:Later wC w2:=HL
      have h0:V 0=_:=HH.1
      have tb93:=(Rg.uE V fr 93 [(0,93)] (by rw [hz];decide)).trans h0
      show Rg.Dz _ _ V (Rg.pU V [(0,93)] fr) w2 _
      exact step_row #[.pointer (some ⟨pt,0,none⟩)] (y) (fun args w=>Rg.call_enter Tryz.func28 (by kernel_rfl) (by kernel_rfl) args w) rfl (by simp only [List.map_toArray,List.map_cons,List.map_nil,tb93]) (by rfl) rfl rfl rfl True.intro (HSV.out w2 HL)
     ·intro V w2 HL HH
      have h1:(bRow (y)).holds (V 1) w2:=HH.1
      obtain ⟨X1,k1,e1,hc1,hr1⟩:=bRow_form h1
      have tb94:=(Rg.uE V fr 94 [(1,94)] (by rw [hz];decide)).trans e1
      show Rg.Dz _ _ V (Rg.pU V [(1,94)] fr) w2 _
      exact step_str (y) rfl tb94 (by first|rfl|simp) (hr1) rfl rfl rfl True.intro
     ·intro V w2 HL HH
      have tb16:=(Rg.uE V fr 16 [] (by rw [hz];decide)).trans y16
      show Rg.Dz _ _ V (Rg.pU V [] fr) w2 _
      exact step_mv (.slice Y y.length cy) (by simp only [execOp,tb16];go_simp) rfl rfl rfl True.intro
     ·intro V w2 HL HH
      have HL:Later wC w2:=HL
      have h3:V 3=_:=HH.1
      have tb96:=(Rg.uE V fr 96 [(3,96)] (by rw [hz];decide)).trans h3
      show Rg.Dz _ _ V (Rg.pU V [(3,96)] fr) w2 _
      exact step_str (y) rfl tb96 (by first|rfl|simp) (HYR.out.below HL) rfl rfl rfl True.intro
     ·intro V w2 HL HH
      have h2:V 2=_:=HH.1
      have h4:V 4=_:=HH.2.1
      have tb95:=(Rg.uE V fr 95 [(2,95),(4,97)] (by rw [hz];decide)).trans h2
      have tb97:=(Rg.uE V fr 97 [(2,95),(4,97)] (by rw [hz];decide)).trans h4
      show Rg.Dz _ _ V (Rg.pU V [(2,95),(4,97)] fr) w2 _
      exact step_mv (.bool false) (by simp only [execOp,tb95,tb97];go_simp) rfl rfl rfl True.intro
     ·intro V w2 HL HH
      have h5:V 5=_:=HH.1
      have tb98:=(Rg.uE V fr 98 [(5,98)] (by rw [hz];decide)).trans h5
      show Rg.Dz _ _ V (Rg.pU V [(5,98)] fr) w2 _
      exact step_mv (.bool false) (by simp only [execOp,tb98];go_simp) rfl rfl rfl True.intro
     ·intro V w2 HL HH
      have h6:V 6=_:=HH.1
      have tb18:=(Rg.uE V fr 18 [(6,99)] (by rw [hz];decide)).trans y18
      show Rg.Dz _ _ V (Rg.pU V [(6,99)] fr) w2 _
      exact step_mv (.pointer (some ⟨pt,0,none⟩)) (by simp only [execOp,tb18];go_simp) rfl rfl rfl h6
     ·intro V w2 HL HH
      have HL:Later wC w2:=HL
      have h6:V 6=_:=HH.1
      have h7:V 7=_:=HH.2.1
      have tb100:=(Rg.uE V fr 100 [(6,99),(7,100)] (by rw [hz];decide)).trans h7
      show Rg.Dz _ _ V (Rg.pU V [(6,99),(7,100)] fr) w2 _
      exact step_num #[.pointer (some ⟨pt,0,none⟩)] (.bool true) (fun args w=>Rg.call_enter Tryz.func44 (by kernel_rfl) (by kernel_rfl) args w) rfl (by simp only [List.map_toArray,List.map_cons,List.map_nil,tb100]) rfl rfl rfl h6 (HSN.out w2 HL)
     ·intro V w2 HL HH
      have h6:V 6=_:=HH.1
      have h8:V 8=_:=HH.2.1
      have tb101:=(Rg.uE V fr 101 [(6,99),(8,101)] (by rw [hz];decide)).trans h8
      show Rg.Dz _ _ V (Rg.pU V [(6,99),(8,101)] fr) w2 _
      exact step_mv (.bool false) (by simp only [execOp,tb101];go_simp) rfl rfl rfl h6
     ·intro V w2 HL HH
      have h6:V 6=_:=HH.1
      have h9:V 9=_:=HH.2.1
      have tb99:=(Rg.uE V fr 99 [(6,99),(9,102)] (by rw [hz];decide)).trans h6
      have tb102:=(Rg.uE V fr 102 [(6,99),(9,102)] (by rw [hz];decide)).trans h9
      show Rg.Dz _ _ V (Rg.pU V [(6,99),(9,102)] fr) w2 _
      exact step_mv (.bool false) (by simp only [execOp,tb99,tb102];go_simp) rfl rfl rfl True.intro
    ·intro V w2 HI
     have v10:V 10=.bool false:=HI.get 10 (by decide) (by rfl)
     have hlt:=later_drew HI.later
     have HB3:Hid (Below w9.heap.size w9 w2):=HBD.out.trans (hlt.mono HBD.out.size)
     clear HI hlt
     simp only [Rg.putList,Act.put,List.setIfInBounds_toArray,List.set_cons_zero,List.set_cons_succ,Nat.zero_add,Nat.reduceAdd]
     rw [v10]
     clear v10
     go_wp2_with fail
     go_roundw
     case rel=>exact ⟨j+1,_,_,_,_,rfl,rfl,rfl,rfl,by go_num,by omega,HB3.out⟩
     case measure=>simp;omega
   ·have HBB:Hid (Below w9.heap.size w9 wB):=HBA.out.trans (hbB.mono HBA.out.size)
    have HI2:=Lib.hid (HINT.out wB hbB)
    clear hbB hno HLOAD HINT HBA HYA
    go_wp2_with fail
    refine HI2.out.mono ?_
    rintro e wC ⟨rfl,nC,hwC⟩
    have HBD:Hid (Below w9.heap.size w9 wC):=by rw [hwC];exact ⟨HBB.out.os,HBB.out.tape,HBB.out.output,HBB.out.size,HBB.out.block⟩
    clear hwC HBB HI2
    go_wp2_with fail
    go_roundw
    case rel=>exact ⟨j+1,_,_,_,_,rfl,rfl,rfl,rfl,by go_num,by omega,HBD.out⟩
    case measure=>simp;omega
  ·obtain rfl:j=3:=by omega
   have HKE:Hid (Kp q Tt w wr):=HK9.out.below HB9.out
   clear HB9 HK9 HTH
   go_wp2_with fail
   refine HKE.out.save.mono ?_
   rintro e wA ⟨XA,cA,rfl,hcA,hrA,_,hbA⟩
   have HKA:Hid (Kp q Tt w wA):=HKE.out.below hbA
   have HLOAD:=Lib.hid (load_any wA XA (Tr.save Tt) cA hrA (by have:=(Tr.save_small HKE.out.good HKE.out.short).2;omega))
   clear hcA hrA hbA HKE
   go_wp2_with fail
   refine HLOAD.out.mono ?_
   rintro e wB ⟨hbB,⟨t,pt,av,gs,S,_,_,_,rfl,_,_⟩|⟨hno,rfl⟩⟩
   ·have HLB:Hid (Below w.heap.size w wB):=HKA.out.low.trans (hbB.mono HKA.out.low.size)
    clear hbB HLOAD HKA
    go_wp2_with fail
    refine (Tm.known_any wB).mono ?_
    rintro e wC ⟨rfl,hbC⟩
    have HLC:Hid (Below w.heap.size w wC):=HLB.out.trans (hbC.mono HLB.out.size)
    clear hbC HLB
    go_wp2_with fail
    first|exact ⟨rfl,HLC.out⟩|(go_ret;exact ⟨rfl,HLC.out⟩)
   ·exact absurd rfl (hno Tt HKA.out.good (HKA.out.short.slim HKA.out.good))
theorem loads_int (w:World) (ps:List AskT) (A:Option Addr) (c1:Nat) (X:Option Addr) (b:Bs) (cb:Nat) (at_ tu:Int) (cut:Bool) (hp:AsksT w A ps) (hl:ps.length≤9223372036854775807) (hb:Rd w X b) (hbc:b.length≤cb) (hbl:b.length≤9223372036854775807) (ha:-9223372036854775808≤at_∧at_≤9223372036854775807) (htu:0≤tu∧tu≤255) :
    Calls Tryz.prog 6 #[.slice A ps.length c1,.slice X b.length cb,.int .i64 at_,.int .u8 tu,.bool cut] w fun e w'=>e=.returned (.bool true)∧Below w.heap.size w w':=by
 obtain ⟨t,rfl⟩:∃ t:UInt8,tu=((t.toNat:Nat):Int):=⟨UInt8.ofNat tu.toNat,by rw [UInt8.toNat_ofNat'];omega⟩
 exact lawLoads_any w ps A c1 hp hl X b cb hb hbc hbl at_ ha.1 ha.2 t cut
end Tw
end Go.Proofs.YtjoedamiilgajaaGreat
