/-
  OWN WORK. The program's reading of a node.
-/
import Derived.Test.YtjoedamiilgajaaGreatQ19
import Derived.Test.YtjoedamiilgajaaGreatQ03
import Derived.Test.YtjoedamiilgajaaGreatQ16
import Derived.Deep.RegionHeld3
namespace Go.Proofs.YtjoedamiilgajaaGreat
open Go.RowKit Rc
open Tr (Nm En T)
namespace Ts
variable {g:Nat} {XB:Option Nat} {s:Co.Rs} {w:World}
def EntOut (g:Nat) (XB:Option Nat) (s:Co.Rs) (w:World) (r:Ending) (w':World):Prop :=
 Keeps w w' g∧((∃ v,r=.returned (.tuple #[v,.bool false])∧Tr.ldEn s=none)∨∃ e s' ge dv nv,Tr.ldEn s=some (e,s')∧r=.returned (.tuple #[.pointer (some ⟨ge,0,none⟩),.bool true])∧Tm.EIn ge dv nv e w'∧(∀ b,Tm.EnS ge dv nv b→w.heap.size≤b)∧Rr g XB s' w')
theorem bytes_small (s:Co.Rs):(Co.bytes s).1.length≤65535:=by
 have h1:=num_small2 s
 unfold Co.bytes Co.raw
 split
 ·simp
 ·split
  ·simp
  ·rw [List.length_take];omega
theorem ein_keeps {g ge:Nat} {dv nv:Value} {e:En} {w1 w2:World} (h:Tm.EIn ge dv nv e w1) (hk:Keeps w1 w2 g) (hg:∀ b,Tm.EnS ge dv nv b→b≠g):Tm.EIn ge dv nv e w2:=h.keep fun b hb=>hk.block b (h.kind hb).1 fun e=>hg b hb (by cases e;rfl)
theorem left_is {N:Nat} {s6 sj:Co.Rs} {l:List Nm} {last:Bs} (h:Tr.ldNames N [] s6=(Tr.ldNames (N-l.length) last sj).map fun r=>(l++r.1,r.2)) (hl:l.length<N) (hg:Pa.good (Co.bytes sj).1=true) (hs:Tr.less last (Co.bytes sj).1=true) :
    Tr.ldNames N [] s6=(Tr.ldNames (N-(l++[((Co.bytes sj).1,((Co.num 2 (Co.bytes sj).2).1:Int))]).length) (Co.bytes sj).1 (Co.num 2 (Co.bytes sj).2).2).map fun r=>((l++[((Co.bytes sj).1,((Co.num 2 (Co.bytes sj).2).1:Int))])++r.1,r.2):=by
 obtain ⟨m,hm⟩:∃ m,N-l.length=m+1:=⟨N-l.length-1,by omega⟩
 rw [h,hm]
 rw [show N-(l++[((Co.bytes sj).1,((Co.num 2 (Co.bytes sj).2).1:Int))]).length=m by simp;omega]
 conv=>lhs;unfold Tr.ldNames
 rw [if_pos ⟨hg,hs⟩]
 generalize Tr.ldNames m (Co.bytes sj).1 (Co.num 2 (Co.bytes sj).2).2=o
 cases o with
 | none=>rfl
 | some r=>simp
theorem left_no {N:Nat} {s6 sj:Co.Rs} {l:List Nm} {last:Bs} (h:Tr.ldNames N [] s6=(Tr.ldNames (N-l.length) last sj).map fun r=>(l++r.1,r.2)) (hl:l.length<N) (hg:¬ (Pa.good (Co.bytes sj).1=true∧Tr.less last (Co.bytes sj).1=true)):Tr.ldNames N [] s6=none:=by
 obtain ⟨m,hm⟩:∃ m,N-l.length=m+1:=⟨N-l.length-1,by omega⟩
 rw [h,hm]
 conv=>lhs;unfold Tr.ldNames
 rw [if_neg hg]
 rfl
set_option maxHeartbeats 2000000 in
set_option maxRecDepth 100000 in
theorem entry_to {Q:Ending→World→Prop} (HQ:Hid (∀ r w',EntOut g XB s w r w'→Q r w')) (h:Rr g XB s w) (hx:∀ b,XB=some b→b<w.heap.size∧b≠g):Calls Tryz.prog 99 #[.pointer (some ⟨g,0,none⟩)] w Q:=by
 have HR:=Lib.hid h
 have HX:=Lib.hid hx
 have hgl:=h.lt
 have HW0:Hid (g<w.heap.size):=hgl
 clear h hx hgl
 go_enter Tryz.func99,Tryz.ntmps99
 go_wp2_with fail
 refine (bytes_rd HR.out).mono ?_
 rintro e w1 ⟨X,c,rfl,HB,HO,HR1,HK1⟩
 obtain ⟨L,hL⟩:∃ L,L=(Co.bytes s).1:=⟨_,rfl⟩
 obtain ⟨s1,hs1⟩:∃ s1,s1=(Co.bytes s).2:=⟨_,rfl⟩
 rw [← hL] at HB HO ⊢
 rw [← hs1] at HR1
 have HLS:∀ P:Prop,(L=(Co.bytes s).1∧s1=(Co.bytes s).2→P)→P:=fun P k=>k ⟨hL,hs1⟩
 have hlen:L.length≤65535:=by rw [hL];exact bytes_small s
 clear hL hs1
 obtain ⟨⟨⟨ia,ka,la,za,ta,sa⟩,why⟩,hdn⟩:∃ d,ndDec L=d:=⟨_,rfl⟩
 have HD:Hid (Calls Tryz.prog 137 #[.slice X L.length c] w1 fun e w'=>e=.returned (.tuple #[.agg #[.int .i64 ia,.int .i64 ka,.int .i64 la,.int .i64 za,.int .u64 (ta:Nat),.bool sa],.int .i64 (why:Nat)])∧Below w1.heap.size w1 w'):=by
  have:=dec_any rsaid rmake w1 X L c HB.out.2 HB.out.1 (by omega)
  rw [hdn] at this
  exact this
 have HDN:∀ P:Prop,(ndDec L=(⟨ia,ka,la,za,ta,sa⟩,why)→P)→P:=fun P k=>k hdn
 clear hlen hdn
 go_wp2_with fail
 refine HD.out.mono ?_
 rintro e w2 ⟨rfl,hb2⟩
 have HR2:Hid (Rr g XB s1 w2):=HR1.out.below (fun b hb=>Nat.lt_of_lt_of_le (HX.out b hb).1 HK1.out.size) hb2
 have HK2:Hid (Keeps w w2 g):=HK1.out.trans (Keeps.of_below hb2)
 clear HB HO HR1 HK1 HD hb2
 go_upto_region 2 with (fail)
 obtain ⟨wn,hwn⟩:∃ wn,wn=w2.alloc (.cells #[.int .i64 ia,.int .i64 ka,.int .i64 la,.int .i64 za,.int .u64 (ta:Nat),.bool sa] 59):=⟨_,rfl⟩
 obtain ⟨nb,hnb⟩:∃ nb,nb=w2.heap.size:=⟨_,rfl⟩
 have HNB:Hid (Blk wn nb 59 [.int .i64 ia,.int .i64 ka,.int .i64 la,.int .i64 za,.int .u64 (ta:Nat),.bool sa]):=by rw [hwn,hnb];exact Blk.new w2 _ _
 have hbn:Below w2.heap.size w2 wn:=by rw [hwn];exact bN w2 _
 have HR3:Hid (Rr g XB s1 wn):=HR2.out.below (fun b hb=>Nat.lt_of_lt_of_le (HX.out b hb).1 HK2.out.size) hbn
 have HK3:Hid (Keeps w wn g):=HK2.out.trans (Keeps.of_below hbn)
 have HNG:Hid (nb≠g∧w.heap.size≤nb):=by
  have h1:=HK2.out.size
  have h2:g<w.heap.size:=HW0.out
  exact ⟨by omega,by omega⟩
 rw [← hwn,← hnb]
 clear hwn hnb hbn HR2 HK2
 by_cases hw:why=0
 ·have hb:((why:Int)==0)=true:=by rw [beq_iff_eq];omega
  have HWHY:=Lib.hid hw
  clear hw
  have HNC:Hid (∀ W,Keeps wn W g→W.cell? ⟨nb,0,none⟩=some (.int .i64 ia)∧W.cell? ⟨nb,1,none⟩=some (.int .i64 ka)∧W.cell? ⟨nb,2,none⟩=some (.int .i64 la)∧W.cell? ⟨nb,3,none⟩=some (.int .i64 za)∧W.cell? ⟨nb,4,none⟩=some (.int .u64 (ta:Nat))∧W.cell? ⟨nb,5,none⟩=some (.bool sa)):=fun W hW=>by
   have h1:Blk W nb 59 [.int .i64 ia,.int .i64 ka,.int .i64 la,.int .i64 za,.int .u64 (ta:Nat),.bool sa]:=(hW.block nb HNB.out.lt fun e=>by cases e;exact HNG.out.1 rfl).trans HNB.out
   exact ⟨h1.cell 0,h1.cell 1,h1.cell 2,h1.cell 3,h1.cell 4,h1.cell 5⟩
  have HRD:Hid (Rr g XB s1 wn.drew):=HR3.out.keep (Nat.le_refl _) rfl fun _ _=>rfl
  go_upto_region 4 with (fail)
  clear hb
  go_region_held3 (fun W=>W.cell? ⟨nb,0,none⟩=some (.int .i64 ia)∧W.cell? ⟨nb,1,none⟩=some (.int .i64 ka)∧W.cell? ⟨nb,2,none⟩=some (.int .i64 la)∧W.cell? ⟨nb,3,none⟩=some (.int .i64 za)∧W.cell? ⟨nb,4,none⟩=some (.int .u64 (ta:Nat))∧W.cell? ⟨nb,5,none⟩=some (.bool sa))
   (first
    | exact HNC.out _ ((HK4.out).trans (Keeps.of_below (bN _ _)))
    | exact HNC.out _ HK4.out
    | exact HNC.out _ ⟨rfl,rfl,rfl,Nat.le_refl _,fun _ _ _=>rfl⟩
    | fail)
   (first
    | (go_at_call 138;refine (bytes_rd HRD.out).mono ?_;rintro e1 w4 ⟨X4,c4,rfl,HB4,HO4,HR4,HK4d⟩;have HK4:Hid (Keeps wn w4 g):=⟨HK4d.out.os,HK4d.out.tape,HK4d.out.output,HK4d.out.size,HK4d.out.block⟩)
    | fail)
  obtain ⟨x4,hx4⟩:∃ x4,x4=(Co.bytes s1).1:=⟨_,rfl⟩
  obtain ⟨s4,hs4⟩:∃ s4,s4=(Co.bytes s1).2:=⟨_,rfl⟩
  rw [← hx4] at HB4 HO4 ⊢
  rw [← hs4] at HR4
  have HLS4:∀ P:Prop,(x4=(Co.bytes s1).1∧s4=(Co.bytes s1).2→P)→P:=fun P k=>k ⟨hx4,hs4⟩
  clear hx4 hs4
  obtain ⟨nd,hnd⟩:∃ nd:Nd,nd=⟨ia,ka,la,za,ta,sa⟩:=⟨_,rfl⟩
  obtain ⟨dv,hdv⟩:∃ dv,dv=Value.slice X4 x4.length c4:=⟨_,rfl⟩
  obtain ⟨w5,hw5⟩:∃ w5,w5=w4.alloc (.cells #[.int .i64 ia,.int .i64 ka,.int .i64 la,.int .i64 za,.int .u64 (ta:Nat),.bool sa,.slice X4 x4.length c4,.slice none 0 0] 92):=⟨_,rfl⟩
  obtain ⟨ge,hge⟩:∃ ge,ge=w4.heap.size:=⟨_,rfl⟩
  have hb5:Below w4.heap.size w4 w5:=by rw [hw5];exact bN w4 _
  have HEI:Hid (Tm.EIn ge dv (.slice none 0 0) ⟨nd,x4,[]⟩ w5):=by
   refine ⟨?_,?_,Tm.NOwn.nil _ _⟩
   ·rw [hw5,hge,hdv,hnd];exact Blk.new w4 _ _
   ·rw [hdv];exact Tm.own_low (Tm.own_keep HO4.out fun b hb=>hb5.block b (Tm.oB HO4.out hb).2.1)
  have HR5:Hid (Rr g XB s4 w5):=HR4.out.below (fun b hb=>Nat.lt_of_lt_of_le (HX.out b hb).1 (Nat.le_trans HK3.out.size HK4.out.size)) hb5
  have HK5:Hid (Keeps w w5 g):=(HK3.out.trans HK4.out).trans (Keeps.of_below hb5)
  have HUP:Hid ((∀ b,Tm.EnS ge dv (.slice none 0 0) b→w.heap.size≤b)∧w.heap.size≤wn.heap.size):=by
   refine ⟨fun b hb=>?_,HK3.out.size⟩
   have h1:=HK3.out.size
   have h2:=HK4.out.size
   rcases hb with rfl|hb|hb
   ·omega
   ·rw [hdv] at hb
    have h3:=(Tm.oB HO4.out hb).1
    have h4:wn.heap.size≤b:=h3
    omega
   ·cases hb
  have HNB5:Hid (Blk w5 nb 59 [.int .i64 ia,.int .i64 ka,.int .i64 la,.int .i64 za,.int .u64 (ta:Nat),.bool sa]):=(((HK4.out).trans (Keeps.of_below hb5)).block nb HNB.out.lt fun e=>by cases e;exact HNG.out.1 rfl).trans HNB.out
  rw [← hw5,← hge]
  have HNDX:Hid (nd=⟨ia,ka,la,za,ta,sa⟩∧dv=.slice X4 x4.length c4∧x4.length≤c4):=⟨hnd,hdv,HB4.out.1⟩
  clear hw5 hge hb5 hnd hdv HNC HRD HR4 HK4 HK4d HB4 HO4 HR3 HK3 HNB
  go_wp2_with fail
  refine (short_rd HR5.out).mono ?_
  rintro e w6 ⟨rfl,HR6,HK6⟩
  obtain ⟨N,hN⟩:∃ N,N=(Co.num 2 s4).1:=⟨_,rfl⟩
  obtain ⟨s6,hs6⟩:∃ s6,s6=(Co.num 2 s4).2:=⟨_,rfl⟩
  have hNs:N≤65535:=by rw [hN];have:=num_small2 s4;omega
  rw [← hN]
  rw [← hs6] at HR6
  have HLD:∀ P:Prop,(Tr.ldEn s=((Tr.ldNames N [] s6).bind fun r=>if (x4.length:Int)=za then some (⟨nd,x4,r.1⟩,r.2) else none)→P)→P:=fun P k=>k (by
   refine HLS _ fun hls=>HDN _ fun hdn=>HLS4 _ fun hls4=>?_
   unfold Tr.ldEn
   rw [← hls.1,hdn,← hls.2,← hls4.1,← hls4.2,← hN,← hs6]
   dsimp only
   rw [if_neg (by rw [show why=0 from HWHY.out];simp),HNDX.out.1])
  have hgne:∀ b,Tm.EnS ge dv (.slice none 0 0) b→b≠g:=fun b hb h9=>by
   have h1:=HUP.out.1 b hb
   have h2:g<w.heap.size:=HW0.out
   omega
  have HE6:Hid (Tm.EIn ge dv (.slice none 0 0) ⟨nd,x4,[]⟩ w6):=ein_keeps HEI.out HK6.out hgne
  have HK6w:Hid (Keeps w w6 g):=HK5.out.trans HK6.out
  have HNB6:Hid (Blk w6 nb 59 [.int .i64 ia,.int .i64 ka,.int .i64 la,.int .i64 za,.int .u64 (ta:Nat),.bool sa]):=(HK6.out.block nb HNB5.out.lt fun e=>by cases e;exact HNG.out.1 rfl).trans HNB5.out
  have HU0:Hid (∀ b,Tm.EnS ge dv (.slice none 0 0) b→w.heap.size≤b):=HUP.out.1
  have HNIL:Hid (Tr.ldNames N [] s6=(Tr.ldNames (N-([]:List Nm).length) [] s6).map fun r=>(([]:List Nm)++r.1,r.2)):=by
   show _=_
   generalize hq:Tr.ldNames N [] s6=o
   cases o <;> rfl
  have HREL0:∀ P:Prop,((Tr.ldNames N [] s6=(Tr.ldNames (N-([]:List Nm).length) [] s6).map fun r=>(([]:List Nm)++r.1,r.2))→P)→P:=fun P k=>k HNIL.out
  have HNS:Hid (N≤65535):=hNs
  clear HLS HDN HLS4 hN hs6 hgne HNIL HEI HR5 HK5 HK6 HNB5 HUP HWHY hNs
  go_wp2_with fail
  go_loopw [7,8,24] (fun t7 t8 t24 wr=>∃ (l:List Nm) (last:Bs) (sj:Co.Rs) (nv v8:Value),t7=.string (strOf last)∧t8=v8∧t24=.int .i64 l.length∧l.length≤N∧Hid (Tm.EIn ge dv nv ⟨nd,x4,l⟩ wr)∧Hid (Rr g XB sj wr)∧Hid (Keeps w wr g)∧Hid (∀ b,Tm.EnS ge dv nv b→w.heap.size≤b)∧Hid (Blk wr nb 59 [.int .i64 ia,.int .i64 ka,.int .i64 la,.int .i64 za,.int .u64 (ta:Nat),.bool sa])∧∀ P:Prop,((Tr.ldNames N [] s6=(Tr.ldNames (N-l.length) last sj).map fun r=>(l++r.1,r.2))→P)→P) (fun _ _ t24 _=>N-(match t24 with|.int _ k=>k.toNat|_=>0))
  case atStart=>exact ⟨[],[],s6,_,_,rfl,rfl,rfl,Nat.zero_le _,HE6.out,HR6.out,HK6w.out,HU0.out,HNB6.out,HREL0⟩
  case round =>
   clear HE6 HR6 HK6w HU0 HNB6 HREL0
   obtain ⟨l,last,sj,nv,v8,rfl,rfl,rfl,hl,HE,HRj,HKj,HU,HNBj,HREL⟩:=hrel
   by_cases hk:l.length<N
   ·have hlt2:(l.length:Int)<(N:Int):=by omega
    go_wp2_with fail
    refine (bytes_rd HRj.out).mono ?_
    rintro e w7 ⟨X7,c7,rfl,HB7,HO7,HR7,HK7⟩
    obtain ⟨x,hx⟩:∃ x,x=(Co.bytes sj).1:=⟨_,rfl⟩
    obtain ⟨s7,hs7⟩:∃ s7,s7=(Co.bytes sj).2:=⟨_,rfl⟩
    rw [← hx] at HB7 ⊢
    rw [← hs7] at HR7
    have HXS:∀ P:Prop,(x=(Co.bytes sj).1∧s7=(Co.bytes sj).2→P)→P:=fun P k=>k ⟨hx,hs7⟩
    have hstr:=str_any w7 X7 x c7 HB7.out.2
    have hxl:x.length≤65535:=by rw [hx];exact bytes_small sj
    have hgne:∀ b,Tm.EnS ge dv nv b→b≠g:=fun b hb h9=>by
     have h1:=HU.out b hb
     have h2:g<w.heap.size:=HW0.out
     omega
    have HE7:Hid (Tm.EIn ge dv nv ⟨nd,x4,l⟩ w7):=ein_keeps HE.out HK7.out hgne
    have HK7w:Hid (Keeps w w7 g):=HKj.out.trans HK7.out
    have HNB7:Hid (Blk w7 nb 59 [.int .i64 ia,.int .i64 ka,.int .i64 la,.int .i64 za,.int .u64 (ta:Nat),.bool sa]):=(HK7.out.block nb HNBj.out.lt fun e=>by cases e;exact HNG.out.1 rfl).trans HNBj.out
    have HGD:=Lib.hid (good_any x w7 (by omega))
    clear hx hs7 hgne HE HRj HK7 HNBj HB7 HO7 HKj
    go_wp2_with fail
    refine HGD.out.mono ?_
    rintro e w8 ⟨rfl,rfl⟩
    clear HGD
    by_cases hgood:Pa.good x=true
    ·rw [hgood]
     by_cases hless:Tr.less last x=true
     ·have hl1:Op.bytesLess (strOf x).toList (strOf last).toList=false:=by rw [strOf_list,strOf_list];exact Tr.less_asym hless
      have hl2:((strOf x).toList==(strOf last).toList)=false:=by rw [strOf_list,strOf_list,beq_eq_false_iff_ne];exact (Tr.less_ne hless).symm
      have HGL:Hid (Pa.good x=true∧Tr.less last x=true):=⟨hgood,hless⟩
      clear hgood hless
      go_upto_region 11 with (fail)
      obtain ⟨n,hn⟩:∃ n:Nm,n=(x,((Co.num 2 s7).1:Int)):=⟨_,rfl⟩
      obtain ⟨PP,hPP⟩:∃ PP,PP=Value.pointer (some ⟨ge,0,none⟩):=⟨_,rfl⟩
      obtain ⟨P7,hP7⟩:∃ P7,P7=Value.pointer (some ⟨ge,7,none⟩):=⟨_,rfl⟩
      obtain ⟨PG,hPG⟩:∃ PG,PG=Value.pointer (some ⟨g,0,none⟩):=⟨_,rfl⟩
      have HLL:Hid (l.length≤1000000):=by
       show _≤_
       have h1:N≤65535:=HNS.out
       omega
      have hnvb:∀ b,nv.ownBlock=some b→w.heap.size≤b:=fun b hb=>HU.out b (.inr (.inr hb))
      have hgeb:w.heap.size≤ge:=HU.out ge (.inl rfl)
      have hgw:g<w.heap.size:=HW0.out
      have HNVG:Hid (nv.ownBlock≠some ge):=fun h9=>by
       obtain ⟨_,_,cs9,h10⟩:=Tm.oB HE7.out.names h9
       exact h10.ne_ HE7.out.box (by decide) rfl
      have H3:=Lib.hid (fun F cons h1 h2 h3=>three_inv (ge:=ge) (gr:=g) (n:=14) (XB:=XB) (F:=F) (cons:=cons) HE7.out.names HE7.out.box HR7.out (fun b hb=>⟨Nat.lt_of_lt_of_le (HX.out b hb).1 HK7w.out.size,fun h9=>by have:=(HX.out b hb).1;omega,fun h9=>by have:=hnvb b h9;have:=(HX.out b hb).1;omega⟩) ⟨by omega,fun h9=>by have:=hnvb g h9;omega,HNVG.out⟩ h1 h2 h3)
      clear hnvb hgeb hgw
      refine Rc.wp_region (by kernel_rfl) (fun opn=>List.getD [Rc.val PP,Rc.val PP,Rc.val PP,Rc.val P7,nrow l,Rc.val (.string (strOf x)),Rc.val PG,rdF g XB w7 (.int .i64 ((Co.num 2 s7).1:Nat)) (Co.num 2 s7).2,Rc.val (.agg #[.string (strOf x),.int .i64 ((Co.num 2 s7).1:Nat)]),nrow [n],nrow (l++[n]),Rc.val PP,Rc.val P7,ebxN ge ⟨nd,x4,l⟩ dv (l++[n]),ncont nv l,ebx ge ⟨nd,x4,l⟩ dv nv,rdF g XB w7 undef s7] opn Rc.any) 3 [] [[],[],[(1,38)],[(2,39)],[(3,40)],[],[],[(6,43)],[(5,42),(7,44)],[(8,45)],[(4,41),(9,46)],[(0,37)],[(11,48)],[(12,49),(10,47)]] [[],[],[1],[2],[3],[],[],[6],[5,7],[8],[4,9],[0],[11],[4,10,12]] [[],[],[1],[2],[3,14,15],[],[],[6,16],[5,7],[8],[4,9],[0],[11],[10,12,15]] [(4,14),(7,16),(10,4),(10,9),(13,10),(13,15)] (by kernel_rfl) (by rfl) (by kernel_rfl) _ _ (H3.out _ _ rfl rfl rfl) ?_ ?_
      ·intro fr ha
       have hz:fr.tmps.size=61:=by rw [ha];rfl
       have y0:fr.eval (.tmp 0)=PG:=by rw [ha,hPG];rfl
       have y6:fr.eval (.tmp 6)=PP:=by rw [ha,hPP];rfl
       have y8:fr.eval (.tmp 8)=.string (strOf x):=by rw [ha];rfl
       clear ha
       refine .cons ?_ (.cons ?_ (.cons ?_ (.cons ?_ (.cons ?_ (.cons ?_ (.cons ?_ (.cons ?_ (.cons ?_ (.cons ?_ (.cons ?_ (.cons ?_ (.cons ?_ (.cons ?_ .nil)))))))))))))
       ·intro V S NW HM HU2 HE2
        have tb6:=(Rg.uE V fr 6 [] (by rw [hz];decide)).trans y6
        show Rg.Dz _ _ V (Rg.pU V [] fr) NW _
        exact Ob.rc_mv PP (by simp only [execOp,tb6];go_simp) rfl rfl True.intro
       ·intro V S NW HM HU2 HE2
        have tb6:=(Rg.uE V fr 6 [] (by rw [hz];decide)).trans y6
        show Rg.Dz _ _ V (Rg.pU V [] fr) NW _
        exact Ob.rc_mv PP (by simp only [execOp,tb6];go_simp) rfl rfl True.intro
       ·intro V S NW HM HU2 HE2
        have v1:V 1=PP:=HU2.holds 1 (by decide)
        have tb38:=(Rg.uE V fr 38 [(1,38)] (by rw [hz];decide)).trans v1
        show Rg.Dz _ _ V (Rg.pU V [(1,38)] fr) NW _
        exact Ob.rc_mv PP (by rw [hPP] at tb38;simp only [execOp,tb38,hPP,hP7];go_simp) rfl rfl True.intro
       ·intro V S NW HM HU2 HE2
        have v2:V 2=PP:=HU2.holds 2 (by decide)
        have tb39:=(Rg.uE V fr 39 [(2,39)] (by rw [hz];decide)).trans v2
        show Rg.Dz _ _ V (Rg.pU V [(2,39)] fr) NW _
        exact Ob.rc_mv P7 (by rw [hPP] at tb39;simp only [execOp,tb39,hP7];go_simp) rfl rfl True.intro
       ·intro V S NW HM HU2 HE2
        have v3:V 3=P7:=HU2.holds 3 (by decide)
        have tb40:=(Rg.uE V fr 40 [(3,40)] (by rw [hz];decide)).trans v3
        show Rg.Dz _ _ V (Rg.pU V [(3,40)] fr) NW _
        have hbk:(ebx ge ⟨nd,x4,l⟩ dv nv).holds (V 15) NW (S 15):=HU2.holds 15 (by decide)
        have cl:NW.cell? ⟨ge,7,none⟩=some nv:=hbk.1.cell 7
        exact step_nload (n0:=14) l nv rfl (by decide) (HU2.holds 14 (by decide)) (HU2.lt 14 (by decide)) (fun x=>Rg.aN rfl V x) True.intro (by rw [hP7] at tb40;simp only [execOp,tb40];go_simp)
       ·intro V S NW HM HU2 HE2
        have tb8:=(Rg.uE V fr 8 [] (by rw [hz];decide)).trans y8
        show Rg.Dz _ _ V (Rg.pU V [] fr) NW _
        exact Ob.rc_mv (.string (strOf x)) (by simp only [execOp,tb8];go_simp) rfl rfl True.intro
       ·intro V S NW HM HU2 HE2
        have tb0:=(Rg.uE V fr 0 [] (by rw [hz];decide)).trans y0
        show Rg.Dz _ _ V (Rg.pU V [] fr) NW _
        exact Ob.rc_mv PG (by simp only [execOp,tb0];go_simp) rfl rfl True.intro
       ·intro V S NW HM HU2 HE2
        have v6:V 6=PG:=HU2.holds 6 (by decide)
        have tb43:=(Rg.uE V fr 43 [(6,43)] (by rw [hz];decide)).trans v6
        show Rg.Dz _ _ V (Rg.pU V [(6,43)] fr) NW _
        exact step_rshort (i:=16) rfl (by rw [hPG] at tb43;simp only [List.map_toArray,List.map_cons,List.map_nil,tb43]) rfl (by decide) (HU2.holds 16 (by decide)) (HU2.lt 16 (by decide)) (fun b hb=>(HX.out b hb).2) (fun x=>Rg.aN rfl V x) True.intro
       ·intro V S NW HM HU2 HE2
        have v5:V 5=(.string (strOf x)):=HU2.holds 5 (by decide)
        have tb42:=(Rg.uE V fr 42 [(5,42),(7,44)] (by rw [hz];decide)).trans v5
        have v7:V 7=.int .i64 ((Co.num 2 s7).1:Nat):=(HU2.holds 7 (by decide)).1
        have tb44:=(Rg.uE V fr 44 [(5,42),(7,44)] (by rw [hz];decide)).trans v7
        show Rg.Dz _ _ V (Rg.pU V [(5,42),(7,44)] fr) NW _
        exact Ob.rc_mv (.agg #[.string (strOf x),.int .i64 ((Co.num 2 s7).1:Nat)]) (by clear HXS HREL HLD v5 v7 hn hPP hP7 hPG hl1 hl2 hstr;simp only [execOp,List.map_toArray,List.map_cons,List.map_nil,tb42,tb44];go_simp) rfl rfl True.intro
       ·intro V S NW HM HU2 HE2
        have v8:V 8=(.agg #[.string (strOf x),.int .i64 ((Co.num 2 s7).1:Nat)]):=HU2.holds 8 (by decide)
        have tb45:=(Rg.uE V fr 45 [(8,45)] (by rw [hz];decide)).trans v8
        show Rg.Dz _ _ V (Rg.pU V [(8,45)] fr) NW _
        exact step_none n rfl (by rw [hn];exact tb45) rfl (fun x=>Rg.aN rfl V x) True.intro
       ·intro V S NW HM HU2 HE2
        have tb41:=(Rg.uE V fr 41 [(4,41),(9,46)] (by rw [hz];decide)).trans rfl
        have tb46:=(Rg.uE V fr 46 [(4,41),(9,46)] (by rw [hz];decide)).trans rfl
        show Rg.Dz _ _ V (Rg.pU V [(4,41),(9,46)] fr) NW _
        exact step_napp (i:=4) (k:=9) l n rfl tb41 tb46 rfl (by decide) (by decide) (HU2.holds 4 (by decide)) (HU2.holds 9 (by decide)) (HU2.lt 4 (by decide)) (HU2.lt 9 (by decide)) HLL.out (fun x=>Rg.aN rfl V x) True.intro
       ·intro V S NW HM HU2 HE2
        have v0:V 0=PP:=HU2.holds 0 (by decide)
        have tb37:=(Rg.uE V fr 37 [(0,37)] (by rw [hz];decide)).trans v0
        show Rg.Dz _ _ V (Rg.pU V [(0,37)] fr) NW _
        exact Ob.rc_mv PP (by rw [hPP] at tb37;simp only [execOp,tb37,hPP,hP7];go_simp) rfl rfl True.intro
       ·intro V S NW HM HU2 HE2
        have v11:V 11=PP:=HU2.holds 11 (by decide)
        have tb48:=(Rg.uE V fr 48 [(11,48)] (by rw [hz];decide)).trans v11
        show Rg.Dz _ _ V (Rg.pU V [(11,48)] fr) NW _
        exact Ob.rc_mv P7 (by rw [hPP] at tb48;simp only [execOp,tb48,hP7];go_simp) rfl rfl True.intro
       ·intro V S NW HM HU2 HE2
        have v12:V 12=P7:=HU2.holds 12 (by decide)
        have tb49:=(Rg.uE V fr 49 [(12,49),(10,47)] (by rw [hz];decide)).trans v12
        have tb47:=(Rg.uE V fr 47 [(12,49),(10,47)] (by rw [hz];decide)).trans rfl
        show Rg.Dz _ _ V (Rg.pU V [(12,49),(10,47)] fr) NW _
        have hbk:(ebx ge ⟨nd,x4,l⟩ dv nv).holds (V 15) NW (S 15):=HU2.holds 15 (by decide)
        have cl:NW.cell? ⟨ge,7,none⟩=some nv:=hbk.1.cell 7
        have fl:=hbk.1.frozen 7
        have h10:(nrow (l++[n])).holds (V 10) NW (S 10):=HU2.holds 10 (by decide)
        obtain ⟨A9,c9,e9,_,_⟩:=Tm.oF h10.1
        have tb47b:=tb47.trans e9
        exact step_nput (n0:=15) (r:=10) ⟨nd,x4,l⟩ dv nv _ (l++[n]) e9 rfl (by decide) (by decide) hbk h10 (HU2.sep 10 (by decide) 15 (by decide) (by decide)) (HU2.lt 10 (by decide)) (fun x=>Rg.aN rfl V x) True.intro (by rw [hP7] at tb49;simp only [execOp,tb47b,tb49];go_simp)
      ·intro V S w2 HI
       have h13:(ebxN ge ⟨nd,x4,l⟩ dv (l++[n])).holds (V 13) w2 (S 13):=HI.get 13 (by decide) (by rfl)
       have h7:(rdF g XB w7 (.int .i64 ((Co.num 2 s7).1:Nat)) (Co.num 2 s7).2).holds (V 7) w2 (S 7):=HI.get 7 (by decide) (by rfl)
       have hmod:=HI.mod
       have hlv13:Rc.Live [(4,14),(7,16),(10,4),(10,9),(13,10),(13,15)] (fun i=>i<17) 13:=⟨by decide,fun k _ hk=>by simp at hk⟩
       have hlv7:Rc.Live [(4,14),(7,16),(10,4),(10,9),(13,10),(13,15)] (fun i=>i<17) 7:=⟨by decide,fun k _ hk=>by simp at hk⟩
       have hsep:=fun b h=>HI.sep 13 7 b hlv13 hlv7 (by decide) h
       have hlt13:=fun b=>HI.lt 13 b hlv13
       obtain ⟨_,nv2,hbx2,hno2,hsub⟩:=h13
       obtain ⟨_,hR2,hS7,hX2⟩:=h7
       have hgw:g<w.heap.size:=HW0.out
       have HGO:Hid (Tm.EIn ge dv nv2 ⟨nd,x4,l++[n]⟩ w2∧Rr g XB (Co.num 2 s7).2 w2∧Keeps w w2 g∧(∀ b,Tm.EnS ge dv nv2 b→w.heap.size≤b)∧Blk w2 nb 59 [.int .i64 ia,.int .i64 ka,.int .i64 la,.int .i64 za,.int .u64 (ta:Nat),.bool sa]):=by
        refine ⟨⟨hbx2,?_,hno2⟩,hR2,?_,fun b hb=>?_,?_⟩
        ·refine Tm.own_keep HE7.out.data fun b hb=>?_
         obtain ⟨_,hb1,cs1,hb2⟩:=Tm.oB HE7.out.data hb
         have hb3:=HU.out b (.inr (.inl hb))
         refine hmod.block b hb1 fun h9=>?_
         rcases h9 with h9|rfl|rfl|h9
         ·obtain ⟨_,_,cs2,hb4⟩:=Tm.oB HE7.out.names h9
          exact hb2.ne_ hb4 (by decide) rfl
         ·exact hb2.ne_ HE7.out.box (by decide) rfl
         ·omega
         ·have:=(HX.out b h9).1;omega
        ·have hk:=HK7w.out
         refine ⟨hmod.os.trans hk.os,hmod.tape.trans hk.tape,hmod.output.trans hk.output,Nat.le_trans hk.size hmod.size,fun k hk1 hk2=>?_⟩
         by_cases hxk:XB=some k
         ·exact (hX2 k hxk).2.trans (hk.block k hk1 hk2)
         ·refine (hmod.block k (Nat.lt_of_lt_of_le hk1 hk.size) fun h9=>?_).trans (hk.block k hk1 hk2)
          rcases h9 with h9|rfl|rfl|h9
          ·have:=HU.out k (.inr (.inr h9));omega
          ·have:=HU.out k (.inl rfl);omega
          ·exact hk2 rfl
          ·exact hxk h9
        ·rcases hb with rfl|hb|hb
         ·exact HU.out _ (.inl rfl)
         ·exact HU.out b (.inr (.inl hb))
         ·have h1:=hsub b hb
          rcases (hlt13 b h1).2 with (h9|rfl|rfl|h9)|h9
          ·exact HU.out b (.inr (.inr h9))
          ·exact HU.out _ (.inl rfl)
          ·exact absurd hS7 (hsep _ h1)
          ·exact absurd (hX2 b h9).1 (hsep _ h1)
          ·exact Nat.le_trans HK7w.out.size h9
        ·refine (hmod.block nb HNB7.out.lt fun h9=>?_).trans HNB7.out
         rcases h9 with h9|h9|h9|h9
         ·obtain ⟨_,_,cs2,hb4⟩:=Tm.oB HE7.out.names h9
          exact HNB7.out.ne_ hb4 (by decide) rfl
         ·exact HNB7.out.ne_ HE7.out.box (by decide) h9
         ·exact HNG.out.1 h9
         ·have h1:=(HX.out nb h9).1
          have h2:=HNG.out.2
          omega
       have HREL2:∀ P:Prop,((Tr.ldNames N [] s6=(Tr.ldNames (N-(l++[n]).length) x (Co.num 2 s7).2).map fun r=>((l++[n])++r.1,r.2))→P)→P:=fun P k=>k (by
        refine HREL _ fun hrel=>HXS _ fun hxs=>?_
        have h1:=left_is hrel hk (by rw [← hxs.1];exact HGL.out.1) (by rw [← hxs.1];exact HGL.out.2)
        rw [← hxs.1,← hxs.2,← hn] at h1
        exact h1)
       have hln:(l++[n]).length=l.length+1:=by simp
       have HLN:Hid ((l++[n]).length=l.length+1):=hln
       have HLK:Hid (l.length<N):=hk
       have hNb:N≤65535:=HNS.out
       clear hmod hlv13 hlv7 hsep hlt13 hbx2 hno2 hsub hR2 hS7 hX2 hgw HREL hln hn HXS H3 HE7 HR7 HK7w HNB7 hl1 hl2 hstr hPP hP7 hPG HI
       simp only [Rg.putList,Act.put,List.setIfInBounds_toArray,List.set_cons_zero,List.set_cons_succ,Nat.zero_add,Nat.reduceAdd]
       go_wp2_with fail
       go_roundw
       case rel=>exact ⟨l++[n],x,(Co.num 2 s7).2,nv2,_,rfl,rfl,by rw [HLN.out];go_num,by rw [HLN.out];exact HLK.out,HGO.out.1,HGO.out.2.1,HGO.out.2.2.1,HGO.out.2.2.2.1,HGO.out.2.2.2.2,HREL2⟩
       case measure =>
        have h9:l.length<N:=HLK.out
        simp
        omega
     ·have HGL:Hid (¬ (Pa.good x=true∧Tr.less last x=true)):=fun h9=>hless h9.2
      rcases Bool.eq_false_or_eq_true (Tr.less x last) with hlt9|hlt9
      ·have hl1:Op.bytesLess (strOf x).toList (strOf last).toList=true:=by rw [strOf_list,strOf_list];exact hlt9
       clear hgood hless hlt9
       go_wp2_with fail
       refine HQ.out _ _ ⟨HK7w.out,.inl ⟨_,rfl,HREL _ fun hrel=>HXS _ fun hxs=>HLD _ fun hld=>?_⟩⟩
       rw [hld,left_no hrel hk (by rw [← hxs.1];exact HGL.out)]
       rfl
      ·have hl1:Op.bytesLess (strOf x).toList (strOf last).toList=false:=by rw [strOf_list,strOf_list];exact hlt9
       have hl2:((strOf x).toList==(strOf last).toList)=true:=by rw [strOf_list,strOf_list,beq_iff_eq];exact Tr.less_tri hlt9 (by simpa using hless)
       clear hgood hless hlt9
       go_wp2_with fail
       refine HQ.out _ _ ⟨HK7w.out,.inl ⟨_,rfl,HREL _ fun hrel=>HXS _ fun hxs=>HLD _ fun hld=>?_⟩⟩
       rw [hld,left_no hrel hk (by rw [← hxs.1];exact HGL.out)]
       rfl
    ·have hgf:Pa.good x=false:=by simpa using hgood
     have HGL:Hid (¬ (Pa.good x=true∧Tr.less last x=true)):=fun h9=>hgood h9.1
     clear hgood
     rw [hgf]
     clear hgf
     go_wp2_with fail
     refine HQ.out _ _ ⟨HK7w.out,.inl ⟨_,rfl,HREL _ fun hrel=>HXS _ fun hxs=>HLD _ fun hld=>?_⟩⟩
     rw [hld,left_no hrel hk (by rw [← hxs.1];exact HGL.out)]
     rfl
   ·obtain rfl:l.length=N:=by omega
    have HLD2:∀ P:Prop,(Tr.ldEn s=(if (x4.length:Int)=za then some (⟨nd,x4,l⟩,sj) else none)→P)→P:=fun P k=>k (by
     refine HREL _ fun hrel=>HLD _ fun hld=>?_
     rw [hld,hrel,show l.length-l.length=0 by omega]
     show (((Tr.ldNames 0 last sj).map fun r=>(l++r.1,r.2)).bind _)=_
     unfold Tr.ldNames
     simp)
    clear HREL HLD
    obtain ⟨hd1,hd2,hd3⟩:=HNDX.out
    have c6:wr.drew.cell? ⟨ge,6,none⟩=some (.slice X4 x4.length c4):=by rw [← hd2];exact HE.out.box.cell 6
    have c3:wr.drew.cell? ⟨nb,3,none⟩=some (.int .i64 za):=HNBj.out.cell 3
    clear hd1 hd2 hd3
    obtain ⟨wd,hwd⟩:∃ wd,wd=wr.drew:=⟨_,rfl⟩
    have HKD:Hid (Keeps w wd g):=by rw [hwd];exact ⟨HKj.out.os,HKj.out.tape,HKj.out.output,HKj.out.size,HKj.out.block⟩
    have HED:Hid (Tm.EIn ge dv nv ⟨nd,x4,l⟩ wd):=by rw [hwd];exact HE.out.keep fun _ _=>rfl
    have HRD:Hid (Rr g XB sj wd):=by rw [hwd];exact HRj.out.keep (Nat.le_refl _) rfl fun _ _=>rfl
    go_upto_region 14 with (fail)
    refine wp_region_still_lit (by kernel_rfl) (by kernel_rfl) ?_
    have hdr:({ heap:=wr.heap,tape:=wr.tape,drawn:=wr.drawn+1,os:=wr.os,output:=wr.output }:World)=wr.drew:=rfl
    simp only [hdr]
    clear hdr HKj HE HRj HNBj
    rw [← hwd] at c6 c3 ⊢
    clear hwd
    repeat still_step
    refine wpStill_nil ?_
    obtain ⟨zb,hzb⟩:∃ zb,zb=((x4.length:Int)==za):=⟨_,rfl⟩
    rw [← hzb]
    have HZB:Hid (zb=((x4.length:Int)==za)):=hzb
    clear hzb c3 c6
    go_wp2_with fail
    cases zb
    ·refine HQ.out _ _ ⟨HKD.out,.inl ⟨_,rfl,HLD2 _ fun hld=>?_⟩⟩
     rw [hld,if_neg (beq_eq_false_iff_ne.1 HZB.out.symm)]
    ·refine HQ.out _ _ ⟨HKD.out,.inr ⟨⟨nd,x4,l⟩,sj,ge,dv,nv,HLD2 _ fun hld=>?_,rfl,HED.out,HU.out,HRD.out⟩⟩
     rw [hld,if_pos (beq_iff_eq.1 HZB.out.symm)]
 ·have hb:((why:Int)==0)=false:=by rw [beq_eq_false_iff_ne];omega
  have HWHY:Hid (¬ why=0):=hw
  clear hw HNG HNB HR3 HX HW0 HR
  go_wp2_with fail
  refine HQ.out _ _ ⟨HK3.out,.inl ⟨_,rfl,?_⟩⟩
  refine HLS _ fun hls=>HDN _ fun hdn=>?_
  unfold Tr.ldEn
  rw [← hls.1,hdn]
  exact if_pos HWHY.out
theorem entry_any (h:Rr g XB s w) (hx:∀ b,XB=some b→b<w.heap.size∧b≠g):Calls Tryz.prog 99 #[.pointer (some ⟨g,0,none⟩)] w (EntOut g XB s w):=entry_to (fun _ _ h=>h) h hx
end Ts
end Go.Proofs.YtjoedamiilgajaaGreat
