/-
  OWN WORK. The document's tree: Save.
-/
import Derived.Test.YtjoedamiilgajaaGreatQ08
import Derived.Test.YtjoedamiilgajaaGreatQ17
import Derived.Test.YtjoedamiilgajaaGreatQ16
import Derived.Test.YtjoedamiilgajaaGreatQArg
import Derived.Test.YtjoedamiilgajaaGreatQRc2
namespace Go.Proofs.YtjoedamiilgajaaGreat
open Go.RowKit Rc
open Tr (Nm En T)
namespace Rf
theorem wBytes_len {x:Bs} (h:x.length≤65535):(Co.wBytes x).length=2+x.length:=by
 unfold Co.wBytes Co.wS
 simp only [List.length_append,List.length_cons,List.length_nil,List.length_take]
 omega
theorem bytes_frow {w:World} {l x:Bs} {A A2:Option Addr} {c c2:Nat} (hr:Rd w A l) (hr2:Rd w A2 x) (hl:l.length≤1099511500000) (hx:x.length≤65535) :
    Calls Tryz.prog 79 #[.slice A l.length c,.slice A2 x.length c2] w fun e w'=>∃ v,e=.returned v∧Ob.Fresh (l++Co.wBytes x) w v w'∧Below w.heap.size w w':=by
 refine (refBytes_any w l x A A2 c c2 hr hr2 hl hx).mono ?_
 rintro e w' ⟨v,h1,h2,h3⟩
 refine ⟨v,h1,?_,h3⟩
 unfold Ob.Fresh
 rw [List.length_append,wBytes_len hx,← Nat.add_assoc]
 exact h2
theorem short_frow {w:World} {l:Bs} {A:Option Addr} {c n:Nat} (hr:Rd w A l) (hl:l.length≤1099511620000) (hn:n≤9223372036854775807) :
    Calls Tryz.prog 78 #[.slice A l.length c,.int .i64 (n:Nat)] w fun e w'=>∃ v,e=.returned v∧Ob.Fresh (l++Co.wS n) w v w'∧Below w.heap.size w w':=by
 refine (refShort_any w l A c n hr hl hn).mono ?_
 rintro e w' ⟨v,h1,h2,h3⟩
 refine ⟨v,h1,?_,h3⟩
 unfold Ob.Fresh
 rw [List.length_append]
 exact h2
def namesTo (f:List (Int × Nm)) (i:Int) (k:Nat):Bs:=(((f.take k).filter fun y=>y.1==i).map (·.2)).flatMap Tr.nameBytes
def cntTo (f:List (Int × Nm)) (i:Int) (k:Nat):Nat:=((f.take k).filter fun y=>y.1==i).length
theorem to_yes {f:List (Int × Nm)} {i:Int} {k:Nat} {x:Bs} {m:Int} (h:f[k]?=some (i,(x,m))):namesTo f i (k+1)=namesTo f i k++Co.wBytes x++Co.wS (Nd.lo16 m)∧cntTo f i (k+1)=cntTo f i k+1:=by
 obtain ⟨hk,e⟩:=List.getElem?_eq_some_iff.1 h
 unfold namesTo cntTo
 rw [List.take_succ_eq_append_getElem hk,e,List.filter_append,List.map_append,List.flatMap_append,List.length_append]
 simp [Tr.nameBytes,List.append_assoc]
theorem to_no {f:List (Int × Nm)} {i:Int} {k:Nat} {y:Int × Nm} (h:f[k]?=some y) (hne:y.1≠i):namesTo f i (k+1)=namesTo f i k∧cntTo f i (k+1)=cntTo f i k:=by
 obtain ⟨hk,e⟩:=List.getElem?_eq_some_iff.1 h
 unfold namesTo cntTo
 rw [List.take_succ_eq_append_getElem hk,e,List.filter_append]
 simp [hne]
theorem to_all {t:T} (hr:Tr.Ris t) {e:En} (he:Tr.find t e.nd.id=some e):namesTo (Tr.flat t) e.nd.id (Tr.flat t).length=e.names.flatMap Tr.nameBytes∧cntTo (Tr.flat t) e.nd.id (Tr.flat t).length=e.names.length:=by
 have h1:=flat_kids hr e.nd.id
 rw [Tr.kids_of he] at h1
 unfold namesTo cntTo
 rw [List.take_length]
 exact ⟨by rw [h1],by rw [← h1,List.length_map]⟩
theorem to_few (f:List (Int × Nm)) (i:Int) (k:Nat):(namesTo f i k).length≤f.length*65539∧cntTo f i k≤f.length:=by
 have h0:((f.take k).filter fun y=>y.1==i).length≤f.length:=Nat.le_trans (List.length_filter_le _ _) (by rw [List.length_take];omega)
 refine ⟨?_,h0⟩
 have:=Tr.names_bytes (((f.take k).filter fun y=>y.1==i).map (·.2))
 rw [List.length_map] at this
 exact Nat.le_trans this (Nat.mul_le_mul_right 65539 h0)
variable {p:Nat} {nv dv ev:Value} {D:Nat→Prop} {t:T} {w:World}
set_option maxHeartbeats 8000000 in
set_option maxRecDepth 100000 in
theorem save_any (h:RA p nv dv ev D t w) (hG:Tr.Good t):Calls Tryz.prog 29 #[.pointer (some ⟨p,0,none⟩)] w (Tm.SvAns (Tr.save t) w):=by
 obtain ⟨i0,hi,hz0,hz1,hz2⟩:=info_parts Tryz.infoU8
 have HI0:=Lib.hid hi
 have HZ0:=Lib.hid hz0
 have HZ1:=Lib.hid hz1
 have HZ2:=Lib.hid hz2
 have HG:=Lib.hid hG
 obtain ⟨AN,cN,rfl,_,hAN⟩:=Tm.oF h.in_.nodes
 obtain ⟨AE,cE,rfl,_,hAE⟩:=Tm.oF h.in_.ents
 obtain ⟨AD,cD,hdv,_,hAD,_⟩:=LOwn.rd h.in_.data (fun _ _ h=>h.elim)
 rw [List.length_map] at hdv
 subst hdv
 obtain ⟨r0,rest,htr,_⟩:=hG.root
 have hpos:0<t.length:=by rw [htr];simp
 obtain ⟨n,hn⟩:∃ n,n=t.length:=⟨_,rfl⟩
 obtain ⟨f,hf⟩:∃ f,f=Tr.flat t:=⟨_,rfl⟩
 obtain ⟨m,hm⟩:∃ m,m=f.length:=⟨_,rfl⟩
 obtain ⟨gN,rfl,_,_,hgN,hcN⟩:=hAN hpos
 obtain ⟨gD,oD,rfl,hgD,hcD⟩:=hAD (by rw [List.length_map];exact hpos)
 have HN:Hid (n=t.length):=hn
 have HF:Hid (f=Tr.flat t):=hf
 have HM:Hid (m=f.length):=hm
 have hn64:n≤64:=by have:=hG.few;omega
 have hm4:m≤4194240:=by rw [hm,hf];exact hG.flat_le
 have HB0:Hid (∀ W,Below w.heap.size w W→W.cell? ⟨p,0,none⟩=some (.slice (some ⟨gN,0,none⟩) n cN)):=fun W hW=>by rw [HN.out];exact (h.below hW).in_.box.cell 0
 have HB1:Hid (∀ W,Below w.heap.size w W→W.cell? ⟨p,1,none⟩=some (.slice (some ⟨gD,oD,none⟩) n cD)):=fun W hW=>by rw [HN.out];exact (h.below hW).in_.box.cell 1
 have HB2:Hid (∀ W,Below w.heap.size w W→W.cell? ⟨p,2,none⟩=some (.slice AE m cE)):=fun W hW=>by rw [HM.out,HF.out];exact (h.below hW).in_.box.cell 2
 have HGN0:=Lib.hid hgN
 have HGD0:=Lib.hid hgD
 have HCN:=Lib.hid hcN
 have HCD:=Lib.hid hcD
 have HAE:=Lib.hid hAE
 have HSH:=Lib.hid (short_frow (w:=w) (l:=[]) (A:=none) (c:=0) (n:=n) (Rd.nil _ _) (by simp) (by omega))
 have HLEN:Hid (∀ (e:En),e ∈ t→∀ j,(Co.wS n++(t.take j).flatMap Tr.enBytes++Co.wBytes e.nd.bytes++Co.wBytes e.data++Co.wS e.names.length++(e.names.take e.names.length).flatMap Tr.nameBytes).length≤1099511400000):=fun e he j=>by rw [HN.out];exact HG.out.save_few j he _
 clear h hG hAN hAE hAD hcN hcD hgN hgD hn hf hm htr hpos hi hz0 hz1 hz2
 have cb0:=HB0.out w (Below.refl _ _)
 go_enter Tryz.func29,Tryz.ntmps29
 go_wp2_with fail
 refine HSH.out.mono ?_
 rintro e w1 ⟨v1,rfl,hf1,hb1⟩
 have HST:Hid (MAt w.heap.size v1 (Co.wS n++(t.take 0).flatMap Tr.enBytes) w w1):=by
  have h1:([]++Co.wS n:Bs)=Co.wS n++(t.take 0).flatMap Tr.enBytes:=by simp
  rw [← h1]
  exact ⟨hf1,hb1,rfl⟩
 clear hf1 hb1 HSH cb0
 go_wp2_with fail
 go_loopw [3,4] (fun t3 t4 wr=>∃ j:Nat,t4=.int .i64 (j:Nat)∧j≤n∧Hid (MAt w.heap.size t3 (Co.wS n++(t.take j).flatMap Tr.enBytes) w wr)) (fun _ t4 _=>n-(match t4 with|.int _ k=>k.toNat|_=>0))
 case atStart=>exact ⟨0,rfl,Nat.zero_le _,HST⟩
 case round =>
  clear HST
  obtain ⟨j,rfl,hj,HMA⟩:=hrel
  obtain ⟨bL,hbl⟩:∃ bL,bL=Co.wS n++(t.take j).flatMap Tr.enBytes:=⟨_,rfl⟩
  have HBLE:=Lib.hid hbl
  rw [← hbl] at HMA
  clear hbl
  obtain ⟨XB,cB,hv3,hcB,hrB⟩:=oF HMA.out.1
  subst hv3
  have HRB:=Lib.hid hrB
  have HBW:Hid (Below w.heap.size w wr):=HMA.out.2.1
  clear hrB hcB
  have cb0:=HB0.out wr HBW.out
  by_cases hk:j<n
  case neg =>
   obtain rfl:j=n:=by omega
   have HANS:Hid (Tm.SvAns (Tr.save t) w (.returned (.slice XB (Tr.save t).length cB)) wr):=by
    have h1:bL=Tr.save t:=by rw [HBLE.out,HN.out,List.take_length];rfl
    obtain ⟨X',c',e1,hc',hr'⟩:=oF HMA.out.1
    injection e1 with e1 e2 e3
    subst e1 e3
    rw [← h1]
    exact ⟨XB,cB,rfl,hc',hr',HMA.out.1,HBW.out⟩
   have HL9:Hid (bL.length=(Tr.save t).length):=by show _=_;rw [HBLE.out,HN.out,List.take_length];rfl
   go_wp2_with fail
   go_ret
   rw [HL9.out]
   exact HANS.out
  case pos =>
  obtain ⟨⟨⟨id,kind,links,size,till,shut⟩,data,names⟩,he⟩:∃ e,t[j]?=some e:=⟨_,List.getElem?_eq_getElem (by rw [← HN.out];exact hk)⟩
  have hem:=List.mem_of_getElem? he
  have hlen:=HLEN.out _ hem j
  dsimp only at hlen
  rw [← HBLE.out] at hlen
  simp only [List.length_append] at hlen
  have HOK:Hid (Nd.Ok (Nd.mk id kind links size till shut)):=by
   have h1:=(HG.out.each _ hem).nd
   obtain ⟨h1,h2,h3,h4,h5,h6,h7,h8⟩:=h1
   dsimp only at h1 h2 h3 h4 h5 h6 h7 h8
   refine ⟨?_,?_,?_,?_,?_⟩
   all_goals first|(show In64 _;unfold In64;dsimp only;omega)|(dsimp only;omega)
  have HL16:Hid ((Nd.bytes (Nd.mk id kind links size till shut)).length=16):=Nd.bytes_length _
  have hw16:(Co.wBytes (Nd.bytes (Nd.mk id kind links size till shut))).length=18:=by rw [wBytes_len (by rw [HL16.out];omega),HL16.out]
  have hd4:data.length≤4096:=by
   have h1:=(HG.out.each _ hem).size
   have h2:=(HG.out.each _ hem).nd.2.2.2.2.2.1
   dsimp only at h1 h2
   omega
  have HLB:Hid (bL.length≤1099511500000):=by show _≤_;omega
  have HLC:Hid ((bL++Co.wBytes (Nd.bytes (Nd.mk id kind links size till shut))).length≤1099511500000):=by show _≤_;rw [List.length_append];omega
  have HNC:Hid (∀ c v,(ndCell (Nd.mk id kind links size till shut))[c]?=some v→w.cell? ⟨gN,j*6+c,none⟩=some v):=fun c v hv=>by
   have hc6:c<6:=by
    have:=(List.getElem?_eq_some_iff.1 hv).1
    exact this
   exact HCN.out _ _ ((nd_get he c hc6).trans hv)
  have HGN:Hid (gN<wr.heap.size):=Nat.lt_of_lt_of_le HGN0.out HBW.out.size
  have HGD:Hid (gD<wr.heap.size):=Nat.lt_of_lt_of_le HGD0.out HBW.out.size
  have HNCr:Hid (∀ c v,(ndCell (Nd.mk id kind links size till shut))[c]?=some v→wr.cell? ⟨gN,j*6+c,none⟩=some v):=fun c v hv=>(HBW.out.cell (p:=⟨gN,j*6+c,none⟩) HGN0.out).trans (HNC.out c v hv)
  obtain ⟨XD,cd,hdc,hdcc,hrd⟩:=HCD.out j data (by rw [List.getElem?_map,he];rfl)
  have HDC:Hid (wr.cell? ⟨gD,oD+j,none⟩=some (.slice XD data.length cd)):=(HBW.out.cell (p:=⟨gD,oD+j,none⟩) HGD0.out).trans hdc
  have HRD:Hid (Rd wr XD data):=hrd.below HBW.out
  have hfi:Tr.find t id=some (En.mk (Nd.mk id kind links size till shut) data names):=HG.out.ris.find hem
  have HALL:Hid (namesTo f id m=names.flatMap Tr.nameBytes∧cntTo f id m=names.length):=by
   have:=to_all (e:=En.mk (Nd.mk id kind links size till shut) data names) HG.out.ris hfi
   dsimp only at this
   rw [← HF.out,← HM.out] at this
   exact this
  have HEB:Hid ((t.take (j+1)).flatMap Tr.enBytes=(t.take j).flatMap Tr.enBytes++Tr.enBytes (En.mk (Nd.mk id kind links size till shut) data names)):=Tr.take_bytes he
  have HNID:Hid (∀ W,Below w.heap.size w W→W.cell? ⟨gN,j*6,none⟩=some (.int .i64 id)):=fun W hW=>(hW.cell (p:=⟨gN,j*6,none⟩) HGN0.out).trans (HNC.out 0 _ rfl)
  have hfull:=hlen
  have HFULL:Hid (bL.length+18+(Co.wBytes data).length+2+(names.flatMap Tr.nameBytes).length≤1099511400000):=by
   rw [hw16,List.take_length] at hfull
   exact hfull
  clear hdc hdcc hrd he hem hfi HNC
  go_upto_region 5 with (fail)
  refine Rc.wp_region2 (by kernel_rfl) (fun opn=>List.getD [Rc.val (.slice XB bL.length cB),Rc.val (.pointer (some ⟨p,0,none⟩)),Rc.val (.pointer (some ⟨p,0,none⟩)),Rc.val (.pointer (some ⟨p,0,none⟩)),Rc.val (.slice (some ⟨gN,0,none⟩) n cN),Rc.val (.int .i64 (j:Nat)),Rc.val (.pointer (some ⟨gN,j*6,none⟩)),Rc.val (.agg #[.int .i64 id,.int .i64 kind,.int .i64 links,.int .i64 size,.int .u64 (till:Nat),.bool shut]),Ob.frow (Nd.bytes (Nd.mk id kind links size till shut)),Ob.frow (bL++Co.wBytes (Nd.bytes (Nd.mk id kind links size till shut))),Rc.val (.pointer (some ⟨p,0,none⟩)),Rc.val (.pointer (some ⟨p,0,none⟩)),Rc.val (.pointer (some ⟨p,1,none⟩)),Rc.val (.slice (some ⟨gD,oD,none⟩) n cD),Rc.val (.int .i64 (j:Nat)),Rc.val (.pointer (some ⟨gD,oD+j,none⟩)),Rc.val (.slice XD data.length cd),Ob.frow (bL++Co.wBytes (Nd.bytes (Nd.mk id kind links size till shut))++Co.wBytes data),Rc.any] opn Rc.any) 0 [(18,17,fun v=>v)] [[],[],[(1,24)],[(2,25)],[(3,26)],[],[(4,27),(5,28)],[(6,29)],[(7,30)],[(0,23),(8,31)],[],[(10,33)],[(11,34)],[(12,35)],[],[(13,36),(14,37)],[(15,38)],[(9,32),(16,39)],[(17,40)]] [[],[],[1],[2],[3],[],[4,5],[6],[7],[0,8],[],[10],[11],[12],[],[13,14],[15],[9,16],[0,17]] [[],[],[1],[2],[3],[],[4,5],[6],[7],[0,8],[],[10],[11],[12],[],[13,14],[15],[9,16],[17]] [] (by kernel_rfl) (by rfl) (by kernel_rfl) (fun _=>False) (fun _ _=>False) Rc.Inv.none ?_ ?_
  ·intro fr ha
   have hz:fr.tmps.size=95:=by rw [ha];rfl
   have y3:fr.eval (.tmp 3)=.slice XB bL.length cB:=by rw [ha];rfl
   have y0:fr.eval (.tmp 0)=.pointer (some ⟨p,0,none⟩):=by rw [ha];rfl
   have y4:fr.eval (.tmp 4)=.int .i64 (j:Nat):=by rw [ha];rfl
   clear ha
   refine .cons ?_ (.cons ?_ (.cons ?_ (.cons ?_ (.cons ?_ (.cons ?_ (.cons ?_ (.cons ?_ (.cons ?_ (.cons ?_ (.cons ?_ (.cons ?_ (.cons ?_ (.cons ?_ (.cons ?_ (.cons ?_ (.cons ?_ (.cons ?_ (.cons ?_ (.nil)))))))))))))))))))
   ·intro V S w2 HM HU HE
    have lw:Below wr.heap.size wr w2:=Rc.Mod.below HM (fun _ h=>h.elim)
    have tb3:=(Rg.uE V fr 3 [] (by rw [hz];decide)).trans y3
    show Rg.Dz _ _ V (Rg.pU V [] fr) w2 _
    exact Ob.rc_mv (.slice XB bL.length cB) (by simp only [execOp,tb3];go_simp) rfl rfl True.intro
   ·intro V S w2 HM HU HE
    have lw:Below wr.heap.size wr w2:=Rc.Mod.below HM (fun _ h=>h.elim)
    have tb0:=(Rg.uE V fr 0 [] (by rw [hz];decide)).trans y0
    show Rg.Dz _ _ V (Rg.pU V [] fr) w2 _
    exact Ob.rc_mv (.pointer (some ⟨p,0,none⟩)) (by simp only [execOp,tb0];go_simp) rfl rfl True.intro
   ·intro V S w2 HM HU HE
    have lw:Below wr.heap.size wr w2:=Rc.Mod.below HM (fun _ h=>h.elim)
    have h1:V 1=_:=HU.holds 1 (by decide)
    have tb24:=(Rg.uE V fr 24 [(1,24)] (by rw [hz];decide)).trans h1
    show Rg.Dz _ _ V (Rg.pU V [(1,24)] fr) w2 _
    exact Ob.rc_mv (.pointer (some ⟨p,0,none⟩)) (by simp only [execOp,tb24];go_simp) rfl rfl True.intro
   ·intro V S w2 HM HU HE
    have lw:Below wr.heap.size wr w2:=Rc.Mod.below HM (fun _ h=>h.elim)
    have h2:V 2=_:=HU.holds 2 (by decide)
    have tb25:=(Rg.uE V fr 25 [(2,25)] (by rw [hz];decide)).trans h2
    show Rg.Dz _ _ V (Rg.pU V [(2,25)] fr) w2 _
    exact Ob.rc_mv (.pointer (some ⟨p,0,none⟩)) (by simp only [execOp,tb25];go_simp) rfl rfl True.intro
   ·intro V S w2 HM HU HE
    have lw:Below wr.heap.size wr w2:=Rc.Mod.below HM (fun _ h=>h.elim)
    have h3:V 3=_:=HU.holds 3 (by decide)
    have tb26:=(Rg.uE V fr 26 [(3,26)] (by rw [hz];decide)).trans h3
    show Rg.Dz _ _ V (Rg.pU V [(3,26)] fr) w2 _
    have cl:=HB0.out w2 (HBW.out.trans (lw.mono HBW.out.size))
    exact Ob.rc_mv (.slice (some ⟨gN,0,none⟩) n cN) (by simp only [execOp,tb26];go_simp) rfl rfl True.intro
   ·intro V S w2 HM HU HE
    have lw:Below wr.heap.size wr w2:=Rc.Mod.below HM (fun _ h=>h.elim)
    have tb4:=(Rg.uE V fr 4 [] (by rw [hz];decide)).trans y4
    show Rg.Dz _ _ V (Rg.pU V [] fr) w2 _
    exact Ob.rc_mv (.int .i64 (j:Nat)) (by simp only [execOp,tb4];go_simp) rfl rfl True.intro
   ·intro V S w2 HM HU HE
    have lw:Below wr.heap.size wr w2:=Rc.Mod.below HM (fun _ h=>h.elim)
    have h4:V 4=_:=HU.holds 4 (by decide)
    have tb27:=(Rg.uE V fr 27 [(4,27),(5,28)] (by rw [hz];decide)).trans h4
    have h5:V 5=_:=HU.holds 5 (by decide)
    have tb28:=(Rg.uE V fr 28 [(4,27),(5,28)] (by rw [hz];decide)).trans h5
    show Rg.Dz _ _ V (Rg.pU V [(4,27),(5,28)] fr) w2 _
    have hjl:(j:Int)<(n:Int):=by omega
    exact Ob.rc_mv (.pointer (some ⟨gN,j*6,none⟩)) (by simp only [execOp,tb27,tb28];go_simp) rfl rfl True.intro
   ·intro V S w2 HM HU HE
    have lw:Below wr.heap.size wr w2:=Rc.Mod.below HM (fun _ h=>h.elim)
    have h6:V 6=_:=HU.holds 6 (by decide)
    have tb29:=(Rg.uE V fr 29 [(6,29)] (by rw [hz];decide)).trans h6
    show Rg.Dz _ _ V (Rg.pU V [(6,29)] fr) w2 _
    have n0:w2.cell? ⟨gN,j*6,none⟩=some (.int .i64 id):=(lw.cell (p:=⟨gN,j*6,none⟩) HGN.out).trans (HNCr.out 0 _ rfl)
    have n1:w2.cell? ⟨gN,j*6+1,none⟩=some (.int .i64 kind):=(lw.cell (p:=⟨gN,j*6+1,none⟩) HGN.out).trans (HNCr.out 1 _ rfl)
    have n2:w2.cell? ⟨gN,j*6+2,none⟩=some (.int .i64 links):=(lw.cell (p:=⟨gN,j*6+2,none⟩) HGN.out).trans (HNCr.out 2 _ rfl)
    have n3:w2.cell? ⟨gN,j*6+3,none⟩=some (.int .i64 size):=(lw.cell (p:=⟨gN,j*6+3,none⟩) HGN.out).trans (HNCr.out 3 _ rfl)
    have n4:w2.cell? ⟨gN,j*6+4,none⟩=some (.int .u64 (till:Nat)):=(lw.cell (p:=⟨gN,j*6+4,none⟩) HGN.out).trans (HNCr.out 4 _ rfl)
    have n5:w2.cell? ⟨gN,j*6+5,none⟩=some (.bool shut):=(lw.cell (p:=⟨gN,j*6+5,none⟩) HGN.out).trans (HNCr.out 5 _ rfl)
    exact Ob.rc_mv (.agg #[.int .i64 id,.int .i64 kind,.int .i64 links,.int .i64 size,.int .u64 (till:Nat),.bool shut]) (by simp only [execOp,tb29];go_simp) rfl rfl True.intro
   ·intro V S w2 HM HU HE
    have lw:Below wr.heap.size wr w2:=Rc.Mod.below HM (fun _ h=>h.elim)
    have h7:V 7=_:=HU.holds 7 (by decide)
    have tb30:=(Rg.uE V fr 30 [(7,30)] (by rw [hz];decide)).trans h7
    show Rg.Dz _ _ V (Rg.pU V [(7,30)] fr) w2 _
    exact Ob.step_frow (Nd.bytes (Nd.mk id kind links size till shut)) #[.agg #[.int .i64 id,.int .i64 kind,.int .i64 links,.int .i64 size,.int .u64 (till:Nat),.bool shut]] (fun args w=>Rg.call_enter Tryz.func80 (by kernel_rfl) (by kernel_rfl) args w) rfl (by simp only [List.map_toArray,List.map_cons,List.map_nil,tb30]) rfl (fun x=>Rg.aN rfl V x) True.intro ((refEnc_any (Nd.mk id kind links size till shut) HOK.out w2).mono (fun e w3 ⟨v,g1,g2,g3⟩=>⟨v,g1,by rw [← HL16.out] at g2;exact g2,g3⟩))
   ·intro V S w2 HM HU HE
    have lw:Below wr.heap.size wr w2:=Rc.Mod.below HM (fun _ h=>h.elim)
    have h0:V 0=.slice XB bL.length cB:=HU.holds 0 (by decide)
    have tb23:=(Rg.uE V fr 23 [(0,23),(8,31)] (by rw [hz];decide)).trans h0
    obtain ⟨X8,k8,e8,hc8,hr8,hX8⟩:=HU.holds 8 (by decide)
    have tb31:=(Rg.uE V fr 31 [(0,23),(8,31)] (by rw [hz];decide)).trans e8
    show Rg.Dz _ _ V (Rg.pU V [(0,23),(8,31)] fr) w2 _
    exact Ob.step_frow (bL++Co.wBytes (Nd.bytes (Nd.mk id kind links size till shut))) #[.slice XB bL.length cB,.slice X8 (Nd.bytes (Nd.mk id kind links size till shut)).length k8] (fun args w=>Rg.call_enter Tryz.func79 (by kernel_rfl) (by kernel_rfl) args w) rfl (by simp only [List.map_toArray,List.map_cons,List.map_nil,tb23,tb31]) rfl (fun x=>Rg.aN rfl V x) True.intro (bytes_frow (HRB.out.below lw) hr8 HLB.out (by have h:=HL16.out;omega))
   ·intro V S w2 HM HU HE
    have lw:Below wr.heap.size wr w2:=Rc.Mod.below HM (fun _ h=>h.elim)
    have tb0:=(Rg.uE V fr 0 [] (by rw [hz];decide)).trans y0
    show Rg.Dz _ _ V (Rg.pU V [] fr) w2 _
    exact Ob.rc_mv (.pointer (some ⟨p,0,none⟩)) (by simp only [execOp,tb0];go_simp) rfl rfl True.intro
   ·intro V S w2 HM HU HE
    have lw:Below wr.heap.size wr w2:=Rc.Mod.below HM (fun _ h=>h.elim)
    have h10:V 10=_:=HU.holds 10 (by decide)
    have tb33:=(Rg.uE V fr 33 [(10,33)] (by rw [hz];decide)).trans h10
    show Rg.Dz _ _ V (Rg.pU V [(10,33)] fr) w2 _
    exact Ob.rc_mv (.pointer (some ⟨p,0,none⟩)) (by simp only [execOp,tb33];go_simp) rfl rfl True.intro
   ·intro V S w2 HM HU HE
    have lw:Below wr.heap.size wr w2:=Rc.Mod.below HM (fun _ h=>h.elim)
    have h11:V 11=_:=HU.holds 11 (by decide)
    have tb34:=(Rg.uE V fr 34 [(11,34)] (by rw [hz];decide)).trans h11
    show Rg.Dz _ _ V (Rg.pU V [(11,34)] fr) w2 _
    exact Ob.rc_mv (.pointer (some ⟨p,1,none⟩)) (by simp only [execOp,tb34];go_simp) rfl rfl True.intro
   ·intro V S w2 HM HU HE
    have lw:Below wr.heap.size wr w2:=Rc.Mod.below HM (fun _ h=>h.elim)
    have h12:V 12=_:=HU.holds 12 (by decide)
    have tb35:=(Rg.uE V fr 35 [(12,35)] (by rw [hz];decide)).trans h12
    show Rg.Dz _ _ V (Rg.pU V [(12,35)] fr) w2 _
    have cl:=HB1.out w2 (HBW.out.trans (lw.mono HBW.out.size))
    exact Ob.rc_mv (.slice (some ⟨gD,oD,none⟩) n cD) (by simp only [execOp,tb35];go_simp) rfl rfl True.intro
   ·intro V S w2 HM HU HE
    have lw:Below wr.heap.size wr w2:=Rc.Mod.below HM (fun _ h=>h.elim)
    have tb4:=(Rg.uE V fr 4 [] (by rw [hz];decide)).trans y4
    show Rg.Dz _ _ V (Rg.pU V [] fr) w2 _
    exact Ob.rc_mv (.int .i64 (j:Nat)) (by simp only [execOp,tb4];go_simp) rfl rfl True.intro
   ·intro V S w2 HM HU HE
    have lw:Below wr.heap.size wr w2:=Rc.Mod.below HM (fun _ h=>h.elim)
    have h13:V 13=_:=HU.holds 13 (by decide)
    have tb36:=(Rg.uE V fr 36 [(13,36),(14,37)] (by rw [hz];decide)).trans h13
    have h14:V 14=_:=HU.holds 14 (by decide)
    have tb37:=(Rg.uE V fr 37 [(13,36),(14,37)] (by rw [hz];decide)).trans h14
    show Rg.Dz _ _ V (Rg.pU V [(13,36),(14,37)] fr) w2 _
    have hjl:(j:Int)<(n:Int):=by omega
    exact Ob.rc_mv (.pointer (some ⟨gD,oD+j,none⟩)) (by simp only [execOp,tb36,tb37];go_simp) rfl rfl True.intro
   ·intro V S w2 HM HU HE
    have lw:Below wr.heap.size wr w2:=Rc.Mod.below HM (fun _ h=>h.elim)
    have h15:V 15=_:=HU.holds 15 (by decide)
    have tb38:=(Rg.uE V fr 38 [(15,38)] (by rw [hz];decide)).trans h15
    show Rg.Dz _ _ V (Rg.pU V [(15,38)] fr) w2 _
    have cl:=(lw.cell (p:=⟨gD,oD+j,none⟩) HGD.out).trans HDC.out
    exact Ob.rc_mv (.slice XD data.length cd) (by simp only [execOp,tb38];go_simp) rfl rfl True.intro
   ·intro V S w2 HM HU HE
    have lw:Below wr.heap.size wr w2:=Rc.Mod.below HM (fun _ h=>h.elim)
    obtain ⟨X9,k9,e9,hc9,hr9,hX9⟩:=HU.holds 9 (by decide)
    have tb32:=(Rg.uE V fr 32 [(9,32),(16,39)] (by rw [hz];decide)).trans e9
    have h16:V 16=.slice XD data.length cd:=HU.holds 16 (by decide)
    have tb39:=(Rg.uE V fr 39 [(9,32),(16,39)] (by rw [hz];decide)).trans h16
    show Rg.Dz _ _ V (Rg.pU V [(9,32),(16,39)] fr) w2 _
    exact Ob.step_frow (bL++Co.wBytes (Nd.bytes (Nd.mk id kind links size till shut))++Co.wBytes data) #[.slice X9 (bL++Co.wBytes (Nd.bytes (Nd.mk id kind links size till shut))).length k9,.slice XD data.length cd] (fun args w=>Rg.call_enter Tryz.func79 (by kernel_rfl) (by kernel_rfl) args w) rfl (by simp only [List.map_toArray,List.map_cons,List.map_nil,tb32,tb39]) rfl (fun x=>Rg.aN rfl V x) True.intro (bytes_frow hr9 (HRD.out.below lw) HLC.out (by omega))
   ·intro V S w2 HM HU HE
    have lw:Below wr.heap.size wr w2:=Rc.Mod.below HM (fun _ h=>h.elim)
    obtain ⟨X17,k17,e17,hc17,hr17,hX17⟩:=HU.holds 17 (by decide)
    have tb40:=(Rg.uE V fr 40 [(17,40)] (by rw [hz];decide)).trans e17
    show Rg.Dz _ _ V (Rg.pU V [(17,40)] fr) w2 _
    exact Rc.step_val _ (Rg.alias_one rfl V) True.intro (by simp only [execOp,tb40,← e17];go_simp) True.intro
  intro V S w2 HI
  have HL2:Hid (Below wr.heap.size wr w2):=Rc.Mod.below HI.mod.undrew (fun _ h=>h.elim)
  have ha18:V 18=V 17:=HI.same 18 17 (fun v=>v) (by decide) (by simp)
  obtain ⟨X17,k17,hw17,hc17,hr17,hX17⟩:=HI.get 17 (by decide) (by rfl)
  have HR17:Hid (Rd w2 X17 (bL++Co.wBytes (Nd.bytes (Nd.mk id kind links size till shut))++Co.wBytes data)):=hr17
  clear hr17 hX17
  simp only [Rg.putList,Act.put,List.setIfInBounds_toArray,List.set_cons_zero,List.set_cons_succ,Nat.zero_add,Nat.reduceAdd]
  rw [ha18,hw17]
  clear HI ha18 hw17
  have HBW5:Hid (Below w.heap.size w w2):=HBW.out.trans (HL2.out.mono HBW.out.size)
  obtain ⟨b2,hb2⟩:∃ b2,b2=bL++Co.wBytes (Nd.bytes (Nd.mk id kind links size till shut))++Co.wBytes data:=⟨_,rfl⟩
  have HB2E:=Lib.hid hb2
  rw [← hb2] at HR17 ⊢
  have HL2E:Hid (b2.length≤1099511500000):=by show _≤_;have h1:=HFULL.out;rw [hb2,List.length_append,List.length_append,hw16];omega
  clear hb2 hc17 HNCr HDC HRD HRB HMA HBW HL2 HGN HGD cb0 HLB HLC hlen hfull hw16 HOK HL16
  have cb2:=HB2.out w2 HBW5.out
  go_wp2_with fail
  go_loopw [5,6,7] (fun t5 t6 t7 wk=>∃ (k:Nat) (XL:Option Addr) (lL:Bs) (cL c5:Nat),t7=.int .i64 (k:Nat)∧t5=.int .i64 (c5:Nat)∧t6=.slice XL lL.length cL∧k≤m∧Hid (lL=namesTo f id k∧c5=cntTo f id k)∧Hid (Rd wk XL lL)∧Hid (Below w2.heap.size w2 wk)) (fun _ _ t7 _=>m-(match t7 with|.int _ k=>k.toNat|_=>0))
  case atStart=>exact ⟨0,none,[],0,0,rfl,rfl,rfl,Nat.zero_le _,⟨rfl,rfl⟩,Rd.nil _ _,Below.refl _ _⟩
  case round =>
   clear cb2
   obtain ⟨k,XL,lL,cL,c5,rfl,rfl,rfl,hkm,HLE,HRL,HBK⟩:=hrel
   have HBW2:Hid (Below w.heap.size w wr):=HBW5.out.trans (HBK.out.mono HBW5.out.size)
   have cb2:=HB2.out wr HBW2.out
   have hc5:c5≤4194240:=by have h1:=HLE.out.2;have h2:=(to_few f id k).2;have:=HM.out;omega
   by_cases hk2:k<m
   case neg =>
    obtain rfl:k=m:=by omega
    have hlen5:(b2++Co.wS c5).length+lL.length≤1099511500000:=by
     have h1:=HFULL.out
     rw [HLE.out.1,HALL.out.1,HB2E.out]
     have h16:(Nd.bytes (Nd.mk id kind links size till shut)).length=16:=Nd.bytes_length _
     have hw:(Co.wBytes (Nd.bytes (Nd.mk id kind links size till shut))).length=18:=by rw [wBytes_len (by rw [h16];omega),h16]
     have hs:(Co.wS c5).length=2:=rfl
     simp only [List.length_append]
     omega
    have HL5:=Lib.hid hlen5
    have HSH:=Lib.hid (short_frow (w:=wr) (l:=b2) (A:=X17) (c:=k17) (n:=c5) (HR17.out.below HBK.out) (Nat.le_trans HL2E.out (by omega)) (by omega))
    have HNXT:Hid (b2++Co.wS c5++lL=Co.wS n++(t.take (j+1)).flatMap Tr.enBytes):=by
     show _=_
     rw [HLE.out.1,HLE.out.2,HALL.out.1,HALL.out.2,HB2E.out,HBLE.out,HEB.out]
     simp only [Tr.enBytes,List.append_assoc]
    clear hlen5
    go_wp2_with fail
    refine HSH.out.mono ?_
    rintro e w9 ⟨v9,rfl,hf9,hb9⟩
    have HRL9:Hid (Rd w9 XL lL):=HRL.out.below hb9
    have HB9:Hid (Below w.heap.size w w9):=HBW2.out.trans (hb9.mono HBW2.out.size)
    have HF9:Hid (w9.ownsRow w.heap.size 5 1 v9 (b2++Co.wS c5).length (Lib.byteCells (b2++Co.wS c5))):=by
     have hf9':w9.ownsRow wr.heap.size 5 1 v9 (b2++Co.wS c5).length (Lib.byteCells (b2++Co.wS c5)):=hf9
     exact own_up (own_base hf9') fun b hb=>Nat.le_trans HBW2.out.size (hf9'.ownBlock_ge b hb)
    clear hf9 hb9 HSH
    go_wp2_with (
     at_builtin
     refine wpList_append_rd rfl (.tmp 91) (.tmp 92) 39 rfl w.heap.size 5 i0 Tryz.underlying39 HI0.out HZ0.out HZ1.out HZ2.out v9 (b2++Co.wS c5).length (Lib.byteCells (b2++Co.wS c5)) rfl HF9.out XL lL lL.length cL rfl rfl HRL9.out (by have:=HL5.out;omega) HB9.out.size ?_
     intro v10 w10 HO10 HG10
     have HNEXT:Hid (MAt w.heap.size v10 (Co.wS n++(t.take (j+1)).flatMap Tr.enBytes) w w10):=by
      rw [← HNXT.out]
      refine ⟨?_,HB9.out.grown HG10.out HB9.out.size fun b hb=>HF9.out.ownBlock_ge b hb,rfl⟩
      rw [List.length_append,Lib.byteCells_append]
      exact HO10.out
     clear HO10 HG10
     go_wp2_with fail
     go_roundw
     case rel=>exact ⟨j+1,by go_num,by omega,HNEXT⟩
     case measure=>simp;omega)
   case pos =>
   obtain ⟨⟨d,x,mi⟩,hy⟩:∃ y,f[k]?=some y:=⟨_,List.getElem?_eq_getElem (by rw [← HM.out];exact hk2)⟩
   obtain ⟨gE,rfl,_,_,hgE,hcE⟩:=HAE.out (by rw [← HF.out,← HM.out];omega)
   have hy2:(Tr.flat t)[k]?=some (d,x,mi):=by rw [← HF.out];exact hy
   have hmem:=List.mem_of_getElem? hy2
   obtain ⟨en,hen,_,hnm⟩:=Tr.flat_mem.1 hmem
   have hxg:=(HG.out.each en hen).good _ hnm
   have hxl:x.length≤16:=by
    simp only [Pa.good,Bool.and_eq_true,decide_eq_true_eq] at hxg
    omega
   obtain ⟨xi,hxi,hxi2⟩:∃ xi:Nat,mi=(xi:Int)∧xi≤65535:=by
    obtain ⟨_,h1⟩:=HG.out.leads en hen _ hnm
    obtain ⟨e2,h2,h3⟩:=Tr.find_isSome.1 h1
    have h4:=(HG.out.each e2 h2).nd
    have h3:e2.nd.id=mi:=h3
    exact ⟨mi.toNat,by have:=h4.1;omega,by have:=h4.1;have:=h4.2.1;omega⟩
   subst hxi
   have HGE:Hid (gE<wr.heap.size):=Nat.lt_of_lt_of_le hgE HBW2.out.size
   have HE0:Hid (wr.cell? ⟨gE,k*3,none⟩=some (.int .i64 d)):=(HBW2.out.cell (p:=⟨gE,k*3,none⟩) hgE).trans (hcE _ _ (fl_get hy2 0 (by omega)))
   have HE1:Hid (wr.cell? ⟨gE,k*3+1,none⟩=some (.string (strOf x))):=(HBW2.out.cell (p:=⟨gE,k*3+1,none⟩) hgE).trans (hcE _ _ (fl_get hy2 1 (by omega)))
   have HE2:Hid (wr.cell? ⟨gE,k*3+2,none⟩=some (.int .i64 (xi:Nat))):=(HBW2.out.cell (p:=⟨gE,k*3+2,none⟩) hgE).trans (hcE _ _ (fl_get hy2 2 (by omega)))
   have HY:=Lib.hid hy
   have HBKT:Hid (∀ W,Below wr.heap.size wr W→Below w2.heap.size w2 W):=fun W hW=>HBK.out.trans (hW.mono HBK.out.size)
   clear hy hgE hcE hy2 hmem hen hnm hxg
   go_wp2_with fail
   by_cases hde:d=id
   ·have HDE:Hid ((d==id)=true):=by show _=_;simpa using hde
    have HTO:Hid (lL++Co.wBytes x++Co.wS xi=namesTo f id (k+1)∧c5+1=cntTo f id (k+1)):=by
     have h1:=to_yes (show f[k]?=some (id,(x,((xi:Nat):Int))) by rw [HY.out,hde])
     rw [show Nd.lo16 ((xi:Nat):Int)=xi by unfold Nd.lo16;omega] at h1
     show _∧_
     rw [h1.1,h1.2,HLE.out.1,HLE.out.2]
     exact ⟨rfl,rfl⟩
    clear hde
    go_upto_region 11 with (fail)
    refine Rc.wp_region (by kernel_rfl) (fun opn=>List.getD [Rc.val (.pointer (some ⟨p,0,none⟩)),Rc.val (.pointer (some ⟨p,0,none⟩)),Rc.val (.pointer (some ⟨p,2,none⟩)),Rc.val (.slice (some ⟨gE,0,none⟩) m cE),Rc.val (.int .i64 (k:Nat)),Rc.val (.pointer (some ⟨gE,k*3,none⟩)),Rc.val (.pointer (some ⟨gE,k*3,none⟩)),Rc.val (.int .i64 d),Rc.val (.pointer (some ⟨p,0,none⟩)),Rc.val (.pointer (some ⟨p,0,none⟩)),Rc.val (.pointer (some ⟨p,0,none⟩)),Rc.val (.slice (some ⟨gN,0,none⟩) n cN),Rc.val (.int .i64 (j:Nat)),Rc.val (.pointer (some ⟨gN,j*6,none⟩)),Rc.val (.pointer (some ⟨gN,j*6,none⟩)),Rc.val (.int .i64 id),Rc.val (.bool true)] opn Rc.any) 0 [] [[],[(0,50)],[(1,51)],[(2,52)],[],[(3,53),(4,54)],[(5,55)],[(6,56)],[],[(8,58)],[(9,59)],[(10,60)],[],[(11,61),(12,62)],[(13,63)],[(14,64)],[(7,57),(15,65)]] [[],[0],[1],[2],[],[3,4],[5],[6],[],[8],[9],[10],[],[11,12],[13],[14],[7,15]] [[],[0],[1],[2],[],[3,4],[5],[6],[],[8],[9],[10],[],[11,12],[13],[14],[7,15]] [] (by kernel_rfl) (by rfl) (by kernel_rfl) (fun _=>False) (fun _ _=>False) Rc.Inv.none ?_ ?_
    ·intro fr ha
     have hz:fr.tmps.size=95:=by rw [ha];rfl
     have y0:fr.eval (.tmp 0)=.pointer (some ⟨p,0,none⟩):=by rw [ha];rfl
     have y7:fr.eval (.tmp 7)=.int .i64 (k:Nat):=by rw [ha];rfl
     have y4:fr.eval (.tmp 4)=.int .i64 (j:Nat):=by rw [ha];rfl
     clear ha
     refine .cons ?_ (.cons ?_ (.cons ?_ (.cons ?_ (.cons ?_ (.cons ?_ (.cons ?_ (.cons ?_ (.cons ?_ (.cons ?_ (.cons ?_ (.cons ?_ (.cons ?_ (.cons ?_ (.cons ?_ (.cons ?_ (.cons ?_ (.nil)))))))))))))))))
     ·intro V S w2 HM HU HE
      have lw:Below wr.heap.size wr w2:=Rc.Mod.below HM (fun _ h=>h.elim)
      have tb0:=(Rg.uE V fr 0 [] (by rw [hz];decide)).trans y0
      show Rg.Dz _ _ V (Rg.pU V [] fr) w2 _
      exact Ob.rc_mv (.pointer (some ⟨p,0,none⟩)) (by simp only [execOp,tb0];go_simp) rfl rfl True.intro
     ·intro V S w2 HM HU HE
      have lw:Below wr.heap.size wr w2:=Rc.Mod.below HM (fun _ h=>h.elim)
      have h0:V 0=_:=HU.holds 0 (by decide)
      have tb50:=(Rg.uE V fr 50 [(0,50)] (by rw [hz];decide)).trans h0
      show Rg.Dz _ _ V (Rg.pU V [(0,50)] fr) w2 _
      exact Ob.rc_mv (.pointer (some ⟨p,0,none⟩)) (by simp only [execOp,tb50];go_simp) rfl rfl True.intro
     ·intro V S w2 HM HU HE
      have lw:Below wr.heap.size wr w2:=Rc.Mod.below HM (fun _ h=>h.elim)
      have h1:V 1=_:=HU.holds 1 (by decide)
      have tb51:=(Rg.uE V fr 51 [(1,51)] (by rw [hz];decide)).trans h1
      show Rg.Dz _ _ V (Rg.pU V [(1,51)] fr) w2 _
      exact Ob.rc_mv (.pointer (some ⟨p,2,none⟩)) (by simp only [execOp,tb51];go_simp) rfl rfl True.intro
     ·intro V S w2 HM HU HE
      have lw:Below wr.heap.size wr w2:=Rc.Mod.below HM (fun _ h=>h.elim)
      have h2:V 2=_:=HU.holds 2 (by decide)
      have tb52:=(Rg.uE V fr 52 [(2,52)] (by rw [hz];decide)).trans h2
      show Rg.Dz _ _ V (Rg.pU V [(2,52)] fr) w2 _
      have cl:=HB2.out w2 (HBW2.out.trans (lw.mono HBW2.out.size))
      exact Ob.rc_mv (.slice (some ⟨gE,0,none⟩) m cE) (by simp only [execOp,tb52];go_simp) rfl rfl True.intro
     ·intro V S w2 HM HU HE
      have lw:Below wr.heap.size wr w2:=Rc.Mod.below HM (fun _ h=>h.elim)
      have tb7:=(Rg.uE V fr 7 [] (by rw [hz];decide)).trans y7
      show Rg.Dz _ _ V (Rg.pU V [] fr) w2 _
      exact Ob.rc_mv (.int .i64 (k:Nat)) (by simp only [execOp,tb7];go_simp) rfl rfl True.intro
     ·intro V S w2 HM HU HE
      have lw:Below wr.heap.size wr w2:=Rc.Mod.below HM (fun _ h=>h.elim)
      have h3:V 3=_:=HU.holds 3 (by decide)
      have tb53:=(Rg.uE V fr 53 [(3,53),(4,54)] (by rw [hz];decide)).trans h3
      have h4:V 4=_:=HU.holds 4 (by decide)
      have tb54:=(Rg.uE V fr 54 [(3,53),(4,54)] (by rw [hz];decide)).trans h4
      show Rg.Dz _ _ V (Rg.pU V [(3,53),(4,54)] fr) w2 _
      have hkl:(k:Int)<(m:Int):=by omega
      exact Ob.rc_mv (.pointer (some ⟨gE,k*3,none⟩)) (by simp only [execOp,tb53,tb54];go_simp) rfl rfl True.intro
     ·intro V S w2 HM HU HE
      have lw:Below wr.heap.size wr w2:=Rc.Mod.below HM (fun _ h=>h.elim)
      have h5:V 5=_:=HU.holds 5 (by decide)
      have tb55:=(Rg.uE V fr 55 [(5,55)] (by rw [hz];decide)).trans h5
      show Rg.Dz _ _ V (Rg.pU V [(5,55)] fr) w2 _
      exact Ob.rc_mv (.pointer (some ⟨gE,k*3,none⟩)) (by simp only [execOp,tb55];go_simp) rfl rfl True.intro
     ·intro V S w2 HM HU HE
      have lw:Below wr.heap.size wr w2:=Rc.Mod.below HM (fun _ h=>h.elim)
      have h6:V 6=_:=HU.holds 6 (by decide)
      have tb56:=(Rg.uE V fr 56 [(6,56)] (by rw [hz];decide)).trans h6
      show Rg.Dz _ _ V (Rg.pU V [(6,56)] fr) w2 _
      have cl:=(lw.cell (p:=⟨gE,k*3,none⟩) HGE.out).trans HE0.out
      exact Ob.rc_mv (.int .i64 d) (by simp only [execOp,tb56];go_simp) rfl rfl True.intro
     ·intro V S w2 HM HU HE
      have lw:Below wr.heap.size wr w2:=Rc.Mod.below HM (fun _ h=>h.elim)
      have tb0:=(Rg.uE V fr 0 [] (by rw [hz];decide)).trans y0
      show Rg.Dz _ _ V (Rg.pU V [] fr) w2 _
      exact Ob.rc_mv (.pointer (some ⟨p,0,none⟩)) (by simp only [execOp,tb0];go_simp) rfl rfl True.intro
     ·intro V S w2 HM HU HE
      have lw:Below wr.heap.size wr w2:=Rc.Mod.below HM (fun _ h=>h.elim)
      have h8:V 8=_:=HU.holds 8 (by decide)
      have tb58:=(Rg.uE V fr 58 [(8,58)] (by rw [hz];decide)).trans h8
      show Rg.Dz _ _ V (Rg.pU V [(8,58)] fr) w2 _
      exact Ob.rc_mv (.pointer (some ⟨p,0,none⟩)) (by simp only [execOp,tb58];go_simp) rfl rfl True.intro
     ·intro V S w2 HM HU HE
      have lw:Below wr.heap.size wr w2:=Rc.Mod.below HM (fun _ h=>h.elim)
      have h9:V 9=_:=HU.holds 9 (by decide)
      have tb59:=(Rg.uE V fr 59 [(9,59)] (by rw [hz];decide)).trans h9
      show Rg.Dz _ _ V (Rg.pU V [(9,59)] fr) w2 _
      exact Ob.rc_mv (.pointer (some ⟨p,0,none⟩)) (by simp only [execOp,tb59];go_simp) rfl rfl True.intro
     ·intro V S w2 HM HU HE
      have lw:Below wr.heap.size wr w2:=Rc.Mod.below HM (fun _ h=>h.elim)
      have h10:V 10=_:=HU.holds 10 (by decide)
      have tb60:=(Rg.uE V fr 60 [(10,60)] (by rw [hz];decide)).trans h10
      show Rg.Dz _ _ V (Rg.pU V [(10,60)] fr) w2 _
      have cl:=HB0.out w2 (HBW2.out.trans (lw.mono HBW2.out.size))
      exact Ob.rc_mv (.slice (some ⟨gN,0,none⟩) n cN) (by simp only [execOp,tb60];go_simp) rfl rfl True.intro
     ·intro V S w2 HM HU HE
      have lw:Below wr.heap.size wr w2:=Rc.Mod.below HM (fun _ h=>h.elim)
      have tb4:=(Rg.uE V fr 4 [] (by rw [hz];decide)).trans y4
      show Rg.Dz _ _ V (Rg.pU V [] fr) w2 _
      exact Ob.rc_mv (.int .i64 (j:Nat)) (by simp only [execOp,tb4];go_simp) rfl rfl True.intro
     ·intro V S w2 HM HU HE
      have lw:Below wr.heap.size wr w2:=Rc.Mod.below HM (fun _ h=>h.elim)
      have h11:V 11=_:=HU.holds 11 (by decide)
      have tb61:=(Rg.uE V fr 61 [(11,61),(12,62)] (by rw [hz];decide)).trans h11
      have h12:V 12=_:=HU.holds 12 (by decide)
      have tb62:=(Rg.uE V fr 62 [(11,61),(12,62)] (by rw [hz];decide)).trans h12
      show Rg.Dz _ _ V (Rg.pU V [(11,61),(12,62)] fr) w2 _
      have hjl:(j:Int)<(n:Int):=by omega
      exact Ob.rc_mv (.pointer (some ⟨gN,j*6,none⟩)) (by simp only [execOp,tb61,tb62];go_simp) rfl rfl True.intro
     ·intro V S w2 HM HU HE
      have lw:Below wr.heap.size wr w2:=Rc.Mod.below HM (fun _ h=>h.elim)
      have h13:V 13=_:=HU.holds 13 (by decide)
      have tb63:=(Rg.uE V fr 63 [(13,63)] (by rw [hz];decide)).trans h13
      show Rg.Dz _ _ V (Rg.pU V [(13,63)] fr) w2 _
      exact Ob.rc_mv (.pointer (some ⟨gN,j*6,none⟩)) (by simp only [execOp,tb63];go_simp) rfl rfl True.intro
     ·intro V S w2 HM HU HE
      have lw:Below wr.heap.size wr w2:=Rc.Mod.below HM (fun _ h=>h.elim)
      have h14:V 14=_:=HU.holds 14 (by decide)
      have tb64:=(Rg.uE V fr 64 [(14,64)] (by rw [hz];decide)).trans h14
      show Rg.Dz _ _ V (Rg.pU V [(14,64)] fr) w2 _
      have cl:=HNID.out w2 (HBW2.out.trans (lw.mono HBW2.out.size))
      exact Ob.rc_mv (.int .i64 id) (by simp only [execOp,tb64];go_simp) rfl rfl True.intro
     ·intro V S w2 HM HU HE
      have lw:Below wr.heap.size wr w2:=Rc.Mod.below HM (fun _ h=>h.elim)
      have h7:V 7=_:=HU.holds 7 (by decide)
      have tb57:=(Rg.uE V fr 57 [(7,57),(15,65)] (by rw [hz];decide)).trans h7
      have h15:V 15=_:=HU.holds 15 (by decide)
      have tb65:=(Rg.uE V fr 65 [(7,57),(15,65)] (by rw [hz];decide)).trans h15
      show Rg.Dz _ _ V (Rg.pU V [(7,57),(15,65)] fr) w2 _
      have hde:=HDE.out
      exact Ob.rc_mv (.bool true) (by simp only [execOp,tb57,tb65];go_simp) rfl rfl True.intro
    intro V S w2 HI
    have HL2:Hid (Below wr.heap.size wr w2):=Rc.Mod.below HI.mod.undrew (fun _ h=>h.elim)
    have hw16:V 16=.bool true:=HI.get 16 (by decide) (by rfl)
    simp only [Rg.putList,Act.put,List.setIfInBounds_toArray,List.set_cons_zero,List.set_cons_succ,Nat.zero_add,Nat.reduceAdd]
    rw [hw16]
    clear HI hw16
    obtain ⟨wk,hwk⟩:∃ wk,wk=w2:=⟨_,rfl⟩
    subst hwk
    have HLK:=Lib.hid HL2.out
    have HBWk:Hid (Below w.heap.size w wk):=HBW2.out.trans (HLK.out.mono HBW2.out.size)
    have HRLk:Hid (Rd wk XL lL):=HRL.out.below HLK.out
    have HGEk:Hid (gE<wk.heap.size):=Nat.lt_of_lt_of_le HGE.out HLK.out.size
    have HE1k:Hid (wk.cell? ⟨gE,k*3+1,none⟩=some (.string (strOf x))):=(HLK.out.cell (p:=⟨gE,k*3+1,none⟩) HGE.out).trans HE1.out
    have HE2k:Hid (wk.cell? ⟨gE,k*3+2,none⟩=some (.int .i64 (xi:Nat))):=(HLK.out.cell (p:=⟨gE,k*3+2,none⟩) HGE.out).trans HE2.out
    have HLL:Hid (lL.length≤1099511500000):=by show _≤_;have h1:=(to_few f id k).1;have:=HM.out;rw [HLE.out.1];omega
    have HLM:Hid ((lL++Co.wBytes x).length≤1099511620000):=by show _≤_;have h1:=(to_few f id k).1;have:=HM.out;have h2:=Tr.wBytes_length x;rw [List.length_append,HLE.out.1];omega
    clear HL2 HE0 HE1 HE2 HGE
    go_upto_region 13 with (fail)
    refine Rc.wp_region2 (by kernel_rfl) (fun opn=>List.getD [Rc.val (.slice XL lL.length cL),Rc.val (.pointer (some ⟨p,0,none⟩)),Rc.val (.pointer (some ⟨p,0,none⟩)),Rc.val (.pointer (some ⟨p,2,none⟩)),Rc.val (.slice (some ⟨gE,0,none⟩) m cE),Rc.val (.int .i64 (k:Nat)),Rc.val (.pointer (some ⟨gE,k*3,none⟩)),Rc.val (.pointer (some ⟨gE,k*3+1,none⟩)),Rc.val (.string (strOf x)),Ob.frow (x),Ob.frow (lL++Co.wBytes x),Rc.val (.pointer (some ⟨p,0,none⟩)),Rc.val (.pointer (some ⟨p,0,none⟩)),Rc.val (.pointer (some ⟨p,2,none⟩)),Rc.val (.slice (some ⟨gE,0,none⟩) m cE),Rc.val (.int .i64 (k:Nat)),Rc.val (.pointer (some ⟨gE,k*3,none⟩)),Rc.val (.pointer (some ⟨gE,k*3+2,none⟩)),Rc.val (.int .i64 (xi:Nat)),Ob.frow (lL++Co.wBytes x++Co.wS xi),Rc.any] opn Rc.any) 0 [(20,19,fun v=>v)] [[],[],[(1,70)],[(2,71)],[(3,72)],[],[(4,73),(5,74)],[(6,75)],[(7,76)],[(8,77)],[(0,69),(9,78)],[],[(11,80)],[(12,81)],[(13,82)],[],[(14,83),(15,84)],[(16,85)],[(17,86)],[(10,79),(18,87)],[(19,88)]] [[],[],[1],[2],[3],[],[4,5],[6],[7],[8],[0,9],[],[11],[12],[13],[],[14,15],[16],[17],[10,18],[0,19]] [[],[],[1],[2],[3],[],[4,5],[6],[7],[8],[0,9],[],[11],[12],[13],[],[14,15],[16],[17],[10,18],[19]] [] (by kernel_rfl) (by rfl) (by kernel_rfl) (fun _=>False) (fun _ _=>False) Rc.Inv.none ?_ ?_
    ·intro fr ha
     have hz:fr.tmps.size=95:=by rw [ha];rfl
     have y6:fr.eval (.tmp 6)=.slice XL lL.length cL:=by rw [ha];rfl
     have y0:fr.eval (.tmp 0)=.pointer (some ⟨p,0,none⟩):=by rw [ha];rfl
     have y7:fr.eval (.tmp 7)=.int .i64 (k:Nat):=by rw [ha];rfl
     clear ha
     refine .cons ?_ (.cons ?_ (.cons ?_ (.cons ?_ (.cons ?_ (.cons ?_ (.cons ?_ (.cons ?_ (.cons ?_ (.cons ?_ (.cons ?_ (.cons ?_ (.cons ?_ (.cons ?_ (.cons ?_ (.cons ?_ (.cons ?_ (.cons ?_ (.cons ?_ (.cons ?_ (.cons ?_ (.nil)))))))))))))))))))))
     ·intro V S w2 HM HU HE
      have lw:Below wk.heap.size wk w2:=Rc.Mod.below HM (fun _ h=>h.elim)
      have tb6:=(Rg.uE V fr 6 [] (by rw [hz];decide)).trans y6
      show Rg.Dz _ _ V (Rg.pU V [] fr) w2 _
      exact Ob.rc_mv (.slice XL lL.length cL) (by simp only [execOp,tb6];go_simp) rfl rfl True.intro
     ·intro V S w2 HM HU HE
      have lw:Below wk.heap.size wk w2:=Rc.Mod.below HM (fun _ h=>h.elim)
      have tb0:=(Rg.uE V fr 0 [] (by rw [hz];decide)).trans y0
      show Rg.Dz _ _ V (Rg.pU V [] fr) w2 _
      exact Ob.rc_mv (.pointer (some ⟨p,0,none⟩)) (by simp only [execOp,tb0];go_simp) rfl rfl True.intro
     ·intro V S w2 HM HU HE
      have lw:Below wk.heap.size wk w2:=Rc.Mod.below HM (fun _ h=>h.elim)
      have h1:V 1=_:=HU.holds 1 (by decide)
      have tb70:=(Rg.uE V fr 70 [(1,70)] (by rw [hz];decide)).trans h1
      show Rg.Dz _ _ V (Rg.pU V [(1,70)] fr) w2 _
      exact Ob.rc_mv (.pointer (some ⟨p,0,none⟩)) (by simp only [execOp,tb70];go_simp) rfl rfl True.intro
     ·intro V S w2 HM HU HE
      have lw:Below wk.heap.size wk w2:=Rc.Mod.below HM (fun _ h=>h.elim)
      have h2:V 2=_:=HU.holds 2 (by decide)
      have tb71:=(Rg.uE V fr 71 [(2,71)] (by rw [hz];decide)).trans h2
      show Rg.Dz _ _ V (Rg.pU V [(2,71)] fr) w2 _
      exact Ob.rc_mv (.pointer (some ⟨p,2,none⟩)) (by simp only [execOp,tb71];go_simp) rfl rfl True.intro
     ·intro V S w2 HM HU HE
      have lw:Below wk.heap.size wk w2:=Rc.Mod.below HM (fun _ h=>h.elim)
      have h3:V 3=_:=HU.holds 3 (by decide)
      have tb72:=(Rg.uE V fr 72 [(3,72)] (by rw [hz];decide)).trans h3
      show Rg.Dz _ _ V (Rg.pU V [(3,72)] fr) w2 _
      have cl:=HB2.out w2 (HBWk.out.trans (lw.mono HBWk.out.size))
      exact Ob.rc_mv (.slice (some ⟨gE,0,none⟩) m cE) (by simp only [execOp,tb72];go_simp) rfl rfl True.intro
     ·intro V S w2 HM HU HE
      have lw:Below wk.heap.size wk w2:=Rc.Mod.below HM (fun _ h=>h.elim)
      have tb7:=(Rg.uE V fr 7 [] (by rw [hz];decide)).trans y7
      show Rg.Dz _ _ V (Rg.pU V [] fr) w2 _
      exact Ob.rc_mv (.int .i64 (k:Nat)) (by simp only [execOp,tb7];go_simp) rfl rfl True.intro
     ·intro V S w2 HM HU HE
      have lw:Below wk.heap.size wk w2:=Rc.Mod.below HM (fun _ h=>h.elim)
      have h4:V 4=_:=HU.holds 4 (by decide)
      have tb73:=(Rg.uE V fr 73 [(4,73),(5,74)] (by rw [hz];decide)).trans h4
      have h5:V 5=_:=HU.holds 5 (by decide)
      have tb74:=(Rg.uE V fr 74 [(4,73),(5,74)] (by rw [hz];decide)).trans h5
      show Rg.Dz _ _ V (Rg.pU V [(4,73),(5,74)] fr) w2 _
      have hkl:(k:Int)<(m:Int):=by omega
      exact Ob.rc_mv (.pointer (some ⟨gE,k*3,none⟩)) (by simp only [execOp,tb73,tb74];go_simp) rfl rfl True.intro
     ·intro V S w2 HM HU HE
      have lw:Below wk.heap.size wk w2:=Rc.Mod.below HM (fun _ h=>h.elim)
      have h6:V 6=_:=HU.holds 6 (by decide)
      have tb75:=(Rg.uE V fr 75 [(6,75)] (by rw [hz];decide)).trans h6
      show Rg.Dz _ _ V (Rg.pU V [(6,75)] fr) w2 _
      exact Ob.rc_mv (.pointer (some ⟨gE,k*3+1,none⟩)) (by simp only [execOp,tb75];go_simp) rfl rfl True.intro
     ·intro V S w2 HM HU HE
      have lw:Below wk.heap.size wk w2:=Rc.Mod.below HM (fun _ h=>h.elim)
      have h7:V 7=_:=HU.holds 7 (by decide)
      have tb76:=(Rg.uE V fr 76 [(7,76)] (by rw [hz];decide)).trans h7
      show Rg.Dz _ _ V (Rg.pU V [(7,76)] fr) w2 _
      have cl:=(lw.cell (p:=⟨gE,k*3+1,none⟩) HGEk.out).trans HE1k.out
      exact Ob.rc_mv (.string (strOf x)) (by simp only [execOp,tb76];go_simp) rfl rfl True.intro
     ·intro V S w2 HM HU HE
      have lw:Below wk.heap.size wk w2:=Rc.Mod.below HM (fun _ h=>h.elim)
      have h8:V 8=_:=HU.holds 8 (by decide)
      have tb77:=(Rg.uE V fr 77 [(8,77)] (by rw [hz];decide)).trans h8
      show Rg.Dz _ _ V (Rg.pU V [(8,77)] fr) w2 _
      exact Ag.step_conv (x) rfl tb77 rfl (fun x=>Rg.aN rfl V x) True.intro
     ·intro V S w2 HM HU HE
      have lw:Below wk.heap.size wk w2:=Rc.Mod.below HM (fun _ h=>h.elim)
      have h0:V 0=.slice XL lL.length cL:=HU.holds 0 (by decide)
      have tb69:=(Rg.uE V fr 69 [(0,69),(9,78)] (by rw [hz];decide)).trans h0
      obtain ⟨X9,k9,e9,hc9,hr9,hX9⟩:=HU.holds 9 (by decide)
      have tb78:=(Rg.uE V fr 78 [(0,69),(9,78)] (by rw [hz];decide)).trans e9
      show Rg.Dz _ _ V (Rg.pU V [(0,69),(9,78)] fr) w2 _
      exact Ob.step_frow (lL++Co.wBytes x) #[.slice XL lL.length cL,.slice X9 (x).length k9] (fun args w=>Rg.call_enter Tryz.func79 (by kernel_rfl) (by kernel_rfl) args w) rfl (by simp only [List.map_toArray,List.map_cons,List.map_nil,tb69,tb78]) rfl (fun x=>Rg.aN rfl V x) True.intro (bytes_frow (HRLk.out.below lw) hr9 HLL.out (by omega))
     ·intro V S w2 HM HU HE
      have lw:Below wk.heap.size wk w2:=Rc.Mod.below HM (fun _ h=>h.elim)
      have tb0:=(Rg.uE V fr 0 [] (by rw [hz];decide)).trans y0
      show Rg.Dz _ _ V (Rg.pU V [] fr) w2 _
      exact Ob.rc_mv (.pointer (some ⟨p,0,none⟩)) (by simp only [execOp,tb0];go_simp) rfl rfl True.intro
     ·intro V S w2 HM HU HE
      have lw:Below wk.heap.size wk w2:=Rc.Mod.below HM (fun _ h=>h.elim)
      have h11:V 11=_:=HU.holds 11 (by decide)
      have tb80:=(Rg.uE V fr 80 [(11,80)] (by rw [hz];decide)).trans h11
      show Rg.Dz _ _ V (Rg.pU V [(11,80)] fr) w2 _
      exact Ob.rc_mv (.pointer (some ⟨p,0,none⟩)) (by simp only [execOp,tb80];go_simp) rfl rfl True.intro
     ·intro V S w2 HM HU HE
      have lw:Below wk.heap.size wk w2:=Rc.Mod.below HM (fun _ h=>h.elim)
      have h12:V 12=_:=HU.holds 12 (by decide)
      have tb81:=(Rg.uE V fr 81 [(12,81)] (by rw [hz];decide)).trans h12
      show Rg.Dz _ _ V (Rg.pU V [(12,81)] fr) w2 _
      exact Ob.rc_mv (.pointer (some ⟨p,2,none⟩)) (by simp only [execOp,tb81];go_simp) rfl rfl True.intro
     ·intro V S w2 HM HU HE
      have lw:Below wk.heap.size wk w2:=Rc.Mod.below HM (fun _ h=>h.elim)
      have h13:V 13=_:=HU.holds 13 (by decide)
      have tb82:=(Rg.uE V fr 82 [(13,82)] (by rw [hz];decide)).trans h13
      show Rg.Dz _ _ V (Rg.pU V [(13,82)] fr) w2 _
      have cl:=HB2.out w2 (HBWk.out.trans (lw.mono HBWk.out.size))
      exact Ob.rc_mv (.slice (some ⟨gE,0,none⟩) m cE) (by simp only [execOp,tb82];go_simp) rfl rfl True.intro
     ·intro V S w2 HM HU HE
      have lw:Below wk.heap.size wk w2:=Rc.Mod.below HM (fun _ h=>h.elim)
      have tb7:=(Rg.uE V fr 7 [] (by rw [hz];decide)).trans y7
      show Rg.Dz _ _ V (Rg.pU V [] fr) w2 _
      exact Ob.rc_mv (.int .i64 (k:Nat)) (by simp only [execOp,tb7];go_simp) rfl rfl True.intro
     ·intro V S w2 HM HU HE
      have lw:Below wk.heap.size wk w2:=Rc.Mod.below HM (fun _ h=>h.elim)
      have h14:V 14=_:=HU.holds 14 (by decide)
      have tb83:=(Rg.uE V fr 83 [(14,83),(15,84)] (by rw [hz];decide)).trans h14
      have h15:V 15=_:=HU.holds 15 (by decide)
      have tb84:=(Rg.uE V fr 84 [(14,83),(15,84)] (by rw [hz];decide)).trans h15
      show Rg.Dz _ _ V (Rg.pU V [(14,83),(15,84)] fr) w2 _
      have hkl:(k:Int)<(m:Int):=by omega
      exact Ob.rc_mv (.pointer (some ⟨gE,k*3,none⟩)) (by simp only [execOp,tb83,tb84];go_simp) rfl rfl True.intro
     ·intro V S w2 HM HU HE
      have lw:Below wk.heap.size wk w2:=Rc.Mod.below HM (fun _ h=>h.elim)
      have h16:V 16=_:=HU.holds 16 (by decide)
      have tb85:=(Rg.uE V fr 85 [(16,85)] (by rw [hz];decide)).trans h16
      show Rg.Dz _ _ V (Rg.pU V [(16,85)] fr) w2 _
      exact Ob.rc_mv (.pointer (some ⟨gE,k*3+2,none⟩)) (by simp only [execOp,tb85];go_simp) rfl rfl True.intro
     ·intro V S w2 HM HU HE
      have lw:Below wk.heap.size wk w2:=Rc.Mod.below HM (fun _ h=>h.elim)
      have h17:V 17=_:=HU.holds 17 (by decide)
      have tb86:=(Rg.uE V fr 86 [(17,86)] (by rw [hz];decide)).trans h17
      show Rg.Dz _ _ V (Rg.pU V [(17,86)] fr) w2 _
      have cl:=(lw.cell (p:=⟨gE,k*3+2,none⟩) HGEk.out).trans HE2k.out
      exact Ob.rc_mv (.int .i64 (xi:Nat)) (by simp only [execOp,tb86];go_simp) rfl rfl True.intro
     ·intro V S w2 HM HU HE
      have lw:Below wk.heap.size wk w2:=Rc.Mod.below HM (fun _ h=>h.elim)
      obtain ⟨X10,k10,e10,hc10,hr10,hX10⟩:=HU.holds 10 (by decide)
      have tb79:=(Rg.uE V fr 79 [(10,79),(18,87)] (by rw [hz];decide)).trans e10
      have h18:V 18=_:=HU.holds 18 (by decide)
      have tb87:=(Rg.uE V fr 87 [(10,79),(18,87)] (by rw [hz];decide)).trans h18
      show Rg.Dz _ _ V (Rg.pU V [(10,79),(18,87)] fr) w2 _
      exact Ob.step_frow (lL++Co.wBytes x++Co.wS xi) #[.slice X10 (lL++Co.wBytes x).length k10,.int .i64 (xi:Nat)] (fun args w=>Rg.call_enter Tryz.func78 (by kernel_rfl) (by kernel_rfl) args w) rfl (by simp only [List.map_toArray,List.map_cons,List.map_nil,tb79,tb87]) rfl (fun x=>Rg.aN rfl V x) True.intro (short_frow hr10 HLM.out (by omega))
     ·intro V S w2 HM HU HE
      have lw:Below wk.heap.size wk w2:=Rc.Mod.below HM (fun _ h=>h.elim)
      obtain ⟨X19,k19,e19,hc19,hr19,hX19⟩:=HU.holds 19 (by decide)
      have tb88:=(Rg.uE V fr 88 [(19,88)] (by rw [hz];decide)).trans e19
      show Rg.Dz _ _ V (Rg.pU V [(19,88)] fr) w2 _
      exact Rc.step_val _ (Rg.alias_one rfl V) True.intro (by simp only [execOp,tb88,← e19];go_simp) True.intro
    intro V S w2 HI
    have HL2:Hid (Below wk.heap.size wk w2):=Rc.Mod.below HI.mod.undrew (fun _ h=>h.elim)
    have ha20:V 20=V 19:=HI.same 20 19 (fun v=>v) (by decide) (by simp)
    obtain ⟨X19,k19,hw19,hc19,hr19,hX19⟩:=HI.get 19 (by decide) (by rfl)
    have HR19:Hid (Rd w2 X19 (lL++Co.wBytes x++Co.wS xi)):=hr19
    clear hr19 hX19
    simp only [Rg.putList,Act.put,List.setIfInBounds_toArray,List.set_cons_zero,List.set_cons_succ,Nat.zero_add,Nat.reduceAdd]
    rw [ha20,hw19]
    clear HI ha20 hw19
    have HNX2:Hid (Below wr.heap.size wr w2):=HLK.out.trans (HL2.out.mono HLK.out.size)
    have HNXB:=Lib.hid (HBKT.out w2 HNX2.out)
    obtain ⟨l9,hl9⟩:∃ l9,l9=lL++Co.wBytes x++Co.wS xi:=⟨_,rfl⟩
    rw [← hl9] at HR19 ⊢
    have HTO2:Hid (l9=namesTo f id (k+1)∧c5+1=cntTo f id (k+1)):=by
     show _∧_
     rw [hl9];exact HTO.out
    clear hl9 hc19 HL2
    go_wp2_with fail
    go_roundw
    case rel=>exact ⟨k+1,_,l9,_,c5+1,by go_num,by go_num,rfl,hk2,HTO2,HR19,HNXB⟩
    case measure=>simp;omega
   ·have HDE:Hid ((d==id)=false):=by show _=_;simpa using hde
    have HTO:=Lib.hid (to_no HY.out hde)
    clear hde
    go_upto_region 11 with (fail)
    refine Rc.wp_region (by kernel_rfl) (fun opn=>List.getD [Rc.val (.pointer (some ⟨p,0,none⟩)),Rc.val (.pointer (some ⟨p,0,none⟩)),Rc.val (.pointer (some ⟨p,2,none⟩)),Rc.val (.slice (some ⟨gE,0,none⟩) m cE),Rc.val (.int .i64 (k:Nat)),Rc.val (.pointer (some ⟨gE,k*3,none⟩)),Rc.val (.pointer (some ⟨gE,k*3,none⟩)),Rc.val (.int .i64 d),Rc.val (.pointer (some ⟨p,0,none⟩)),Rc.val (.pointer (some ⟨p,0,none⟩)),Rc.val (.pointer (some ⟨p,0,none⟩)),Rc.val (.slice (some ⟨gN,0,none⟩) n cN),Rc.val (.int .i64 (j:Nat)),Rc.val (.pointer (some ⟨gN,j*6,none⟩)),Rc.val (.pointer (some ⟨gN,j*6,none⟩)),Rc.val (.int .i64 id),Rc.val (.bool false)] opn Rc.any) 0 [] [[],[(0,50)],[(1,51)],[(2,52)],[],[(3,53),(4,54)],[(5,55)],[(6,56)],[],[(8,58)],[(9,59)],[(10,60)],[],[(11,61),(12,62)],[(13,63)],[(14,64)],[(7,57),(15,65)]] [[],[0],[1],[2],[],[3,4],[5],[6],[],[8],[9],[10],[],[11,12],[13],[14],[7,15]] [[],[0],[1],[2],[],[3,4],[5],[6],[],[8],[9],[10],[],[11,12],[13],[14],[7,15]] [] (by kernel_rfl) (by rfl) (by kernel_rfl) (fun _=>False) (fun _ _=>False) Rc.Inv.none ?_ ?_
    ·intro fr ha
     have hz:fr.tmps.size=95:=by rw [ha];rfl
     have y0:fr.eval (.tmp 0)=.pointer (some ⟨p,0,none⟩):=by rw [ha];rfl
     have y7:fr.eval (.tmp 7)=.int .i64 (k:Nat):=by rw [ha];rfl
     have y4:fr.eval (.tmp 4)=.int .i64 (j:Nat):=by rw [ha];rfl
     clear ha
     refine .cons ?_ (.cons ?_ (.cons ?_ (.cons ?_ (.cons ?_ (.cons ?_ (.cons ?_ (.cons ?_ (.cons ?_ (.cons ?_ (.cons ?_ (.cons ?_ (.cons ?_ (.cons ?_ (.cons ?_ (.cons ?_ (.cons ?_ (.nil)))))))))))))))))
     ·intro V S w2 HM HU HE
      have lw:Below wr.heap.size wr w2:=Rc.Mod.below HM (fun _ h=>h.elim)
      have tb0:=(Rg.uE V fr 0 [] (by rw [hz];decide)).trans y0
      show Rg.Dz _ _ V (Rg.pU V [] fr) w2 _
      exact Ob.rc_mv (.pointer (some ⟨p,0,none⟩)) (by simp only [execOp,tb0];go_simp) rfl rfl True.intro
     ·intro V S w2 HM HU HE
      have lw:Below wr.heap.size wr w2:=Rc.Mod.below HM (fun _ h=>h.elim)
      have h0:V 0=_:=HU.holds 0 (by decide)
      have tb50:=(Rg.uE V fr 50 [(0,50)] (by rw [hz];decide)).trans h0
      show Rg.Dz _ _ V (Rg.pU V [(0,50)] fr) w2 _
      exact Ob.rc_mv (.pointer (some ⟨p,0,none⟩)) (by simp only [execOp,tb50];go_simp) rfl rfl True.intro
     ·intro V S w2 HM HU HE
      have lw:Below wr.heap.size wr w2:=Rc.Mod.below HM (fun _ h=>h.elim)
      have h1:V 1=_:=HU.holds 1 (by decide)
      have tb51:=(Rg.uE V fr 51 [(1,51)] (by rw [hz];decide)).trans h1
      show Rg.Dz _ _ V (Rg.pU V [(1,51)] fr) w2 _
      exact Ob.rc_mv (.pointer (some ⟨p,2,none⟩)) (by simp only [execOp,tb51];go_simp) rfl rfl True.intro
     ·intro V S w2 HM HU HE
      have lw:Below wr.heap.size wr w2:=Rc.Mod.below HM (fun _ h=>h.elim)
      have h2:V 2=_:=HU.holds 2 (by decide)
      have tb52:=(Rg.uE V fr 52 [(2,52)] (by rw [hz];decide)).trans h2
      show Rg.Dz _ _ V (Rg.pU V [(2,52)] fr) w2 _
      have cl:=HB2.out w2 (HBW2.out.trans (lw.mono HBW2.out.size))
      exact Ob.rc_mv (.slice (some ⟨gE,0,none⟩) m cE) (by simp only [execOp,tb52];go_simp) rfl rfl True.intro
     ·intro V S w2 HM HU HE
      have lw:Below wr.heap.size wr w2:=Rc.Mod.below HM (fun _ h=>h.elim)
      have tb7:=(Rg.uE V fr 7 [] (by rw [hz];decide)).trans y7
      show Rg.Dz _ _ V (Rg.pU V [] fr) w2 _
      exact Ob.rc_mv (.int .i64 (k:Nat)) (by simp only [execOp,tb7];go_simp) rfl rfl True.intro
     ·intro V S w2 HM HU HE
      have lw:Below wr.heap.size wr w2:=Rc.Mod.below HM (fun _ h=>h.elim)
      have h3:V 3=_:=HU.holds 3 (by decide)
      have tb53:=(Rg.uE V fr 53 [(3,53),(4,54)] (by rw [hz];decide)).trans h3
      have h4:V 4=_:=HU.holds 4 (by decide)
      have tb54:=(Rg.uE V fr 54 [(3,53),(4,54)] (by rw [hz];decide)).trans h4
      show Rg.Dz _ _ V (Rg.pU V [(3,53),(4,54)] fr) w2 _
      have hkl:(k:Int)<(m:Int):=by omega
      exact Ob.rc_mv (.pointer (some ⟨gE,k*3,none⟩)) (by simp only [execOp,tb53,tb54];go_simp) rfl rfl True.intro
     ·intro V S w2 HM HU HE
      have lw:Below wr.heap.size wr w2:=Rc.Mod.below HM (fun _ h=>h.elim)
      have h5:V 5=_:=HU.holds 5 (by decide)
      have tb55:=(Rg.uE V fr 55 [(5,55)] (by rw [hz];decide)).trans h5
      show Rg.Dz _ _ V (Rg.pU V [(5,55)] fr) w2 _
      exact Ob.rc_mv (.pointer (some ⟨gE,k*3,none⟩)) (by simp only [execOp,tb55];go_simp) rfl rfl True.intro
     ·intro V S w2 HM HU HE
      have lw:Below wr.heap.size wr w2:=Rc.Mod.below HM (fun _ h=>h.elim)
      have h6:V 6=_:=HU.holds 6 (by decide)
      have tb56:=(Rg.uE V fr 56 [(6,56)] (by rw [hz];decide)).trans h6
      show Rg.Dz _ _ V (Rg.pU V [(6,56)] fr) w2 _
      have cl:=(lw.cell (p:=⟨gE,k*3,none⟩) HGE.out).trans HE0.out
      exact Ob.rc_mv (.int .i64 d) (by simp only [execOp,tb56];go_simp) rfl rfl True.intro
     ·intro V S w2 HM HU HE
      have lw:Below wr.heap.size wr w2:=Rc.Mod.below HM (fun _ h=>h.elim)
      have tb0:=(Rg.uE V fr 0 [] (by rw [hz];decide)).trans y0
      show Rg.Dz _ _ V (Rg.pU V [] fr) w2 _
      exact Ob.rc_mv (.pointer (some ⟨p,0,none⟩)) (by simp only [execOp,tb0];go_simp) rfl rfl True.intro
     ·intro V S w2 HM HU HE
      have lw:Below wr.heap.size wr w2:=Rc.Mod.below HM (fun _ h=>h.elim)
      have h8:V 8=_:=HU.holds 8 (by decide)
      have tb58:=(Rg.uE V fr 58 [(8,58)] (by rw [hz];decide)).trans h8
      show Rg.Dz _ _ V (Rg.pU V [(8,58)] fr) w2 _
      exact Ob.rc_mv (.pointer (some ⟨p,0,none⟩)) (by simp only [execOp,tb58];go_simp) rfl rfl True.intro
     ·intro V S w2 HM HU HE
      have lw:Below wr.heap.size wr w2:=Rc.Mod.below HM (fun _ h=>h.elim)
      have h9:V 9=_:=HU.holds 9 (by decide)
      have tb59:=(Rg.uE V fr 59 [(9,59)] (by rw [hz];decide)).trans h9
      show Rg.Dz _ _ V (Rg.pU V [(9,59)] fr) w2 _
      exact Ob.rc_mv (.pointer (some ⟨p,0,none⟩)) (by simp only [execOp,tb59];go_simp) rfl rfl True.intro
     ·intro V S w2 HM HU HE
      have lw:Below wr.heap.size wr w2:=Rc.Mod.below HM (fun _ h=>h.elim)
      have h10:V 10=_:=HU.holds 10 (by decide)
      have tb60:=(Rg.uE V fr 60 [(10,60)] (by rw [hz];decide)).trans h10
      show Rg.Dz _ _ V (Rg.pU V [(10,60)] fr) w2 _
      have cl:=HB0.out w2 (HBW2.out.trans (lw.mono HBW2.out.size))
      exact Ob.rc_mv (.slice (some ⟨gN,0,none⟩) n cN) (by simp only [execOp,tb60];go_simp) rfl rfl True.intro
     ·intro V S w2 HM HU HE
      have lw:Below wr.heap.size wr w2:=Rc.Mod.below HM (fun _ h=>h.elim)
      have tb4:=(Rg.uE V fr 4 [] (by rw [hz];decide)).trans y4
      show Rg.Dz _ _ V (Rg.pU V [] fr) w2 _
      exact Ob.rc_mv (.int .i64 (j:Nat)) (by simp only [execOp,tb4];go_simp) rfl rfl True.intro
     ·intro V S w2 HM HU HE
      have lw:Below wr.heap.size wr w2:=Rc.Mod.below HM (fun _ h=>h.elim)
      have h11:V 11=_:=HU.holds 11 (by decide)
      have tb61:=(Rg.uE V fr 61 [(11,61),(12,62)] (by rw [hz];decide)).trans h11
      have h12:V 12=_:=HU.holds 12 (by decide)
      have tb62:=(Rg.uE V fr 62 [(11,61),(12,62)] (by rw [hz];decide)).trans h12
      show Rg.Dz _ _ V (Rg.pU V [(11,61),(12,62)] fr) w2 _
      have hjl:(j:Int)<(n:Int):=by omega
      exact Ob.rc_mv (.pointer (some ⟨gN,j*6,none⟩)) (by simp only [execOp,tb61,tb62];go_simp) rfl rfl True.intro
     ·intro V S w2 HM HU HE
      have lw:Below wr.heap.size wr w2:=Rc.Mod.below HM (fun _ h=>h.elim)
      have h13:V 13=_:=HU.holds 13 (by decide)
      have tb63:=(Rg.uE V fr 63 [(13,63)] (by rw [hz];decide)).trans h13
      show Rg.Dz _ _ V (Rg.pU V [(13,63)] fr) w2 _
      exact Ob.rc_mv (.pointer (some ⟨gN,j*6,none⟩)) (by simp only [execOp,tb63];go_simp) rfl rfl True.intro
     ·intro V S w2 HM HU HE
      have lw:Below wr.heap.size wr w2:=Rc.Mod.below HM (fun _ h=>h.elim)
      have h14:V 14=_:=HU.holds 14 (by decide)
      have tb64:=(Rg.uE V fr 64 [(14,64)] (by rw [hz];decide)).trans h14
      show Rg.Dz _ _ V (Rg.pU V [(14,64)] fr) w2 _
      have cl:=HNID.out w2 (HBW2.out.trans (lw.mono HBW2.out.size))
      exact Ob.rc_mv (.int .i64 id) (by simp only [execOp,tb64];go_simp) rfl rfl True.intro
     ·intro V S w2 HM HU HE
      have lw:Below wr.heap.size wr w2:=Rc.Mod.below HM (fun _ h=>h.elim)
      have h7:V 7=_:=HU.holds 7 (by decide)
      have tb57:=(Rg.uE V fr 57 [(7,57),(15,65)] (by rw [hz];decide)).trans h7
      have h15:V 15=_:=HU.holds 15 (by decide)
      have tb65:=(Rg.uE V fr 65 [(7,57),(15,65)] (by rw [hz];decide)).trans h15
      show Rg.Dz _ _ V (Rg.pU V [(7,57),(15,65)] fr) w2 _
      have hde:=HDE.out
      exact Ob.rc_mv (.bool false) (by simp only [execOp,tb57,tb65];go_simp) rfl rfl True.intro
    intro V S w2 HI
    have HL2:Hid (Below wr.heap.size wr w2):=Rc.Mod.below HI.mod.undrew (fun _ h=>h.elim)
    have hw16:V 16=.bool false:=HI.get 16 (by decide) (by rfl)
    simp only [Rg.putList,Act.put,List.setIfInBounds_toArray,List.set_cons_zero,List.set_cons_succ,Nat.zero_add,Nat.reduceAdd]
    rw [hw16]
    clear HI hw16
    have HNXB:=Lib.hid (HBKT.out w2 HL2.out)
    have HRLn:Hid (Rd w2 XL lL):=HRL.out.below HL2.out
    have HTO2:Hid (lL=namesTo f id (k+1)∧c5=cntTo f id (k+1)):=⟨HLE.out.1.trans HTO.out.1.symm,HLE.out.2.trans HTO.out.2.symm⟩
    clear HL2
    go_wp2_with fail
    go_roundw
    case rel=>exact ⟨k+1,_,lL,_,c5,by go_num,rfl,rfl,hk2,HTO2,HRLn,HNXB⟩
    case measure=>simp;omega
end Rf
end Go.Proofs.YtjoedamiilgajaaGreat
