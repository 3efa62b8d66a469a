/-
  OWN WORK. keep.Tame: an operation of few paths.
-/
import Derived.Test.YtbnpgakmhhfjkaaGreatDoorZ19
namespace Go.Proofs.YtbnpgakmhhfjkaaGreatDoor
open Go.RowKit Rc
namespace Kp
theorem set9 {w:World} {g:Nat} {t:TypeId} {a0 a1 a2 a3 a4 a5 a6 a7 a8:Value} (h:Blk w g t [a0,a1,a2,a3,a4,a5,a6,a7,a8]) (x0 x1 x2 x3 x4 x5 x6 x7 x8:Value):Blk (((((((((w.setCell ⟨g,0,none⟩ x0).setCell ⟨g,1,none⟩ x1).setCell ⟨g,2,none⟩ x2).setCell ⟨g,3,none⟩ x3).setCell ⟨g,4,none⟩ x4).setCell ⟨g,5,none⟩ x5).setCell ⟨g,6,none⟩ x6).setCell ⟨g,7,none⟩ x7).setCell ⟨g,8,none⟩ x8) g t [x0,x1,x2,x3,x4,x5,x6,x7,x8] :=
 ((((((((h.set_ 0 x0).set_ 1 x1).set_ 2 x2).set_ 3 x3).set_ 4 x4).set_ 5 x5).set_ 6 x6).set_ 7 x7).set_ 8 x8
theorem set9_below {w0 w:World} {B g:Nat} (h:Below B w0 w) (hg:B≤g) (x0 x1 x2 x3 x4 x5 x6 x7 x8:Value):Below B w0 (((((((((w.setCell ⟨g,0,none⟩ x0).setCell ⟨g,1,none⟩ x1).setCell ⟨g,2,none⟩ x2).setCell ⟨g,3,none⟩ x3).setCell ⟨g,4,none⟩ x4).setCell ⟨g,5,none⟩ x5).setCell ⟨g,6,none⟩ x6).setCell ⟨g,7,none⟩ x7).setCell ⟨g,8,none⟩ x8) :=
 below_set1 (below_set1 (below_set1 (below_set1 (below_set1 (below_set1 (below_set1 (below_set1 (below_set1 h hg 0 x0) hg 1 x1) hg 2 x2) hg 3 x3) hg 4 x4) hg 5 x5) hg 6 x6) hg 7 x7) hg 8 x8
theorem results_blk1 {P:Program} {fn:Func} {p:Tmp} {ty:TypeId} (h:fn.results=#[.cell p ty]) (tmps:Array Value) (w:World) (g:Nat) (t:TypeId) (cs:List Value) (d:TypeDesc)
    (hp:tmps.getD p undef=.pointer (some ⟨g,0,none⟩)) (hb:Blk w g t cs)
    (hu:P.underlying ty=some d) (hd:(match d with|.struct _|.array _ _=>true|_=>false)=true) (hi:(P.info? ty).map (·.size)=some cs.length) :
    (results fn tmps).run P w=.ok (.agg cs.toArray) w :=
 results_cell_row h tmps w g t cs.toArray (0,0) d hp hb hu hd (by simpa using hi)
theorem wrap_in (x:Int):-9223372036854775808≤IntKind.i64.wrap x∧IntKind.i64.wrap x≤9223372036854775807:=by
 rw [IntKind.wrap_i64]
 omega
def lit (o:St.Opn) (dv:Value):Value:=.agg #[.int .i64 o.kind,.string (strOf o.path),.string (strOf o.dest),.int .i64 o.fd,.int .i64 o.at_,.int .i64 o.n,.int .u64 (o.till:Nat),.int .i64 o.snap,dv]
theorem with_in (n:Int) (m:Nat) (k:Nat) (hm:m≤2000000) (h0:-9223372036854775808≤n) (h1:n≤9223372036854775807) (hk:k=Wi.within0 n m) (w:World):Calls Tryz.prog 30 #[.int .i64 n,.int .i64 0,.int .i64 m] w fun e w'=>e=.returned (.int .i64 (k:Nat))∧Below w.heap.size w w':=by
 subst hk
 exact (Wi.within_any n m w hm h0 h1).mono fun e w' ⟨h,hw⟩=>by subst hw;exact ⟨h,Below.refl _ _⟩
set_option maxHeartbeats 4000000 in
set_option maxRecDepth 100000 in
theorem tame_any (o:St.Opn) (hfd:-9223372036854775808≤o.fd∧o.fd≤9223372036854775807) (hat:-9223372036854775808≤o.at_∧o.at_≤9223372036854775807) (hn:-9223372036854775808≤o.n∧o.n≤9223372036854775807) (hsn:-9223372036854775808≤o.snap∧o.snap≤9223372036854775807) (hlp:o.path.length≤9223372036854775807) (hld:o.dest.length≤9223372036854775807) (hdl:o.data.length≤9223372036854775807) (A:Option Addr) (c:Nat) (hc:o.data.length≤c) (w:World) :
    Calls Tryz.prog 16 #[lit o (.slice A o.data.length c)] w fun e w'=>e=.returned (lit (St.tame o) (.slice A (St.tame o).data.length c))∧Below w.heap.size w w':=by
 obtain ⟨kind,path,dest,fd,at_,n,till,snap,data⟩:=o
 unfold lit St.tame
 dsimp only at hfd hat hn hsn hlp hld hdl hc ⊢
 obtain ⟨x1,hx1⟩:∃ x,x=IntKind.i64.wrap ((path.length:Nat)+at_.tmod 7):=⟨_,rfl⟩
 obtain ⟨x2,hx2⟩:∃ x,x=IntKind.i64.wrap ((dest.length:Nat)+n.tmod 7):=⟨_,rfl⟩
 rw [← hx1,← hx2]
 obtain ⟨na,hna⟩:∃ x,x=St.name x1:=⟨_,rfl⟩
 obtain ⟨nb,hnb⟩:∃ x,x=St.name x2:=⟨_,rfl⟩
 rw [← hna,← hnb]
 obtain ⟨f4,hf4⟩:∃ x,x=Wi.within0 fd 3:=⟨_,rfl⟩
 obtain ⟨a51,ha51⟩:∃ x,x=Wi.within0 at_ 50:=⟨_,rfl⟩
 obtain ⟨n61,hn61⟩:∃ x,x=Wi.within0 n 60:=⟨_,rfl⟩
 obtain ⟨s5,hs5⟩:∃ x,x=Wi.within0 snap 4:=⟨_,rfl⟩
 obtain ⟨t12,ht12⟩:∃ x,x=till % 12:=⟨_,rfl⟩
 obtain ⟨dl,hdl2⟩:∃ x,x=data.take 40:=⟨_,rfl⟩
 have e1:fd % 4=(f4:Int):=by rw [hf4,Wi.within0_cast];rfl
 have e2:at_ % 51=(a51:Int):=by rw [ha51,Wi.within0_cast];rfl
 have e3:n % 61=(n61:Int):=by rw [hn61,Wi.within0_cast];rfl
 have e4:snap % 5=(s5:Int):=by rw [hs5,Wi.within0_cast];rfl
 rw [e1,e2,e3,e4,← ht12,← hdl2]
 obtain ⟨sv,hsv⟩:∃ x:Int,x=(if (kind=3∨kind=11∨kind=12)∧snap.tmod 3≠0 then (0:Int) else (s5:Nat)):=⟨_,rfl⟩
 rw [← hsv]
 have HSV:=Lib.hid hsv
 clear hsv
 have b1:-9223372036854775808≤x1∧x1≤9223372036854775807:=by rw [hx1];exact wrap_in _
 have b2:-9223372036854775808≤x2∧x2≤9223372036854775807:=by rw [hx2];exact wrap_in _
 have HNA:Hid (∀ W,Calls Tryz.prog 54 #[.int .i64 x1] W fun e w'=>e=.returned (.string (strOf na))∧Below W.heap.size W w'):=fun W=>by rw [hna];exact name_any x1 b1.1 b1.2 W
 have HNB:Hid (∀ W,Calls Tryz.prog 54 #[.int .i64 x2] W fun e w'=>e=.returned (.string (strOf nb))∧Below W.heap.size W w'):=fun W=>by rw [hnb];exact name_any x2 b2.1 b2.2 W
 have HF4:Hid (∀ W,Calls Tryz.prog 30 #[.int .i64 fd,.int .i64 0,.int .i64 3] W fun e w'=>e=.returned (.int .i64 (f4:Nat))∧Below W.heap.size W w'):=fun W=>with_in fd 3 f4 (by decide) hfd.1 hfd.2 hf4 W
 have HA51:Hid (∀ W,Calls Tryz.prog 30 #[.int .i64 at_,.int .i64 0,.int .i64 50] W fun e w'=>e=.returned (.int .i64 (a51:Nat))∧Below W.heap.size W w'):=fun W=>with_in at_ 50 a51 (by decide) hat.1 hat.2 ha51 W
 have HN61:Hid (∀ W,Calls Tryz.prog 30 #[.int .i64 n,.int .i64 0,.int .i64 60] W fun e w'=>e=.returned (.int .i64 (n61:Nat))∧Below W.heap.size W w'):=fun W=>with_in n 60 n61 (by decide) hn.1 hn.2 hn61 W
 have HS5:Hid (∀ W,Calls Tryz.prog 30 #[.int .i64 snap,.int .i64 0,.int .i64 4] W fun e w'=>e=.returned (.int .i64 (s5:Nat))∧Below W.heap.size W w'):=fun W=>with_in snap 4 s5 (by decide) hsn.1 hsn.2 hs5 W
 have HCU:Hid (∀ W,Calls Tryz.prog 14 #[.slice A data.length c,.int .i64 40] W fun e w'=>e=.returned (.slice A dl.length c)∧Below W.heap.size W w'):=fun W=>by
  rw [hdl2]
  exact (cut_any A data c 40 hc (by decide) hdl W).mono fun e w' h=>⟨h.1,by rw [h.2];exact Below.refl _ _⟩
 have HX1:Hid (IntKind.i64.wrap ((path.length:Nat)+at_.tmod 7)=x1):=hx1.symm
 have HX2:Hid (IntKind.i64.wrap ((dest.length:Nat)+n.tmod 7)=x2):=hx2.symm
 have HS1:Hid ((strOf path).size=path.length):=strOf_size path
 have HS2:Hid ((strOf dest).size=dest.length):=strOf_size dest
 have HT12:Hid (((till:Nat):Int).tmod 12=(t12:Nat)):=by show _=_;rw [ht12];exact (Int.ofNat_tmod till 12).symm
 obtain ⟨V0,hV0⟩:∃ V0,V0=w.alloc (.cells #[.int .i64 kind,.string (strOf path),.string (strOf dest),.int .i64 fd,.int .i64 at_,.int .i64 n,.int .u64 (till:Nat),.int .i64 snap,.slice A data.length c] 36):=⟨_,rfl⟩
 obtain ⟨W0,hW0⟩:∃ W0,W0=V0.alloc (.cells #[.int .i64 0,.string ⟨#[]⟩,.string ⟨#[]⟩,.int .i64 0,.int .i64 0,.int .i64 0,.int .u64 0,.int .i64 0,.slice none 0 0] 36):=⟨_,rfl⟩
 obtain ⟨g,hg⟩:∃ g,g=w.heap.size:=⟨_,rfl⟩
 have hz:Blk V0 g 36 [.int .i64 kind,.string (strOf path),.string (strOf dest),.int .i64 fd,.int .i64 at_,.int .i64 n,.int .u64 (till:Nat),.int .i64 snap,.slice A data.length c]:=by rw [hV0,hg];exact Blk.new w _ _
 have HZ0:Hid (Blk W0 g 36 [.int .i64 kind,.string (strOf path),.string (strOf dest),.int .i64 fd,.int .i64 at_,.int .i64 n,.int .u64 (till:Nat),.int .i64 snap,.slice A data.length c]):=by show Blk _ _ _ _;rw [hW0];exact hz.alloc _
 have HR0:Hid (Blk W0 (g+1) 36 [.int .i64 0,.string ⟨#[]⟩,.string ⟨#[]⟩,.int .i64 0,.int .i64 0,.int .i64 0,.int .u64 0,.int .i64 0,.slice none 0 0]):=by
  show Blk _ _ _ _
  rw [hW0,show g+1=V0.heap.size by rw [hV0,World.size_alloc,hg]]
  exact Blk.new V0 _ _
 have HB0:Hid (Below w.heap.size w W0):=by show Below _ _ _;rw [hW0,hV0];exact (below_new w _).trans ((below_new _ _).mono (by rw [World.size_alloc];omega))
 have HGG:Hid (w.heap.size≤g):=Nat.le_of_eq hg.symm
 clear hz hna hnb hf4 ha51 hn61 hs5 ht12 e1 e2 e3 e4 hx1 hx2 b1 b2 hfd hat hn hsn hlp hld hdl hc hdl2
 go_enter Tryz.func16,Tryz.ntmps16
 go_upto_region 1 with (fail)
 rw [← hV0,← hW0,← hg]
 clear hV0 hW0 hg
 refine Rc.wp_region (by kernel_rfl) (fun opn=>List.getD [Rc.val (.pointer (some ⟨g,0,none⟩)),Rc.val (.int .i64 kind),Rc.val (.pointer (some ⟨g,1,none⟩)),Rc.val (.string (strOf path)),Rc.val (.int .i64 (path.length:Nat)),Rc.val (.pointer (some ⟨g,4,none⟩)),Rc.val (.int .i64 at_),Rc.val (.int .i64 (at_.tmod 7)),Rc.val (.int .i64 x1),Rc.val (.string (strOf na)),Rc.val (.pointer (some ⟨g,2,none⟩)),Rc.val (.string (strOf dest)),Rc.val (.int .i64 (dest.length:Nat)),Rc.val (.pointer (some ⟨g,5,none⟩)),Rc.val (.int .i64 n),Rc.val (.int .i64 (n.tmod 7)),Rc.val (.int .i64 x2),Rc.val (.string (strOf nb)),Rc.val (.pointer (some ⟨g,3,none⟩)),Rc.val (.int .i64 fd),Rc.val (.int .i64 (f4:Nat)),Rc.val (.pointer (some ⟨g,4,none⟩)),Rc.val (.int .i64 at_),Rc.val (.int .i64 (a51:Nat)),Rc.val (.pointer (some ⟨g,5,none⟩)),Rc.val (.int .i64 n),Rc.val (.int .i64 (n61:Nat)),Rc.val (.pointer (some ⟨g,6,none⟩)),Rc.val (.int .u64 (till:Nat)),Rc.val (.int .u64 (t12:Nat)),Rc.val (.pointer (some ⟨g,7,none⟩)),Rc.val (.int .i64 snap),Rc.val (.int .i64 (s5:Nat)),Rc.val (.pointer (some ⟨g,8,none⟩)),Rc.val (.slice A data.length c),Rc.val (.slice A dl.length c),Rc.val (.agg #[.int .i64 kind,.string (strOf na),.string (strOf nb),.int .i64 (f4:Nat),.int .i64 (a51:Nat),.int .i64 (n61:Nat),.int .u64 (t12:Nat),.int .i64 (s5:Nat),.slice A dl.length c]),Ag2.bx 36 [.int .i64 0,.string ⟨#[]⟩,.string ⟨#[]⟩,.int .i64 0,.int .i64 0,.int .i64 0,.int .u64 0,.int .i64 0,.slice none 0 0],Ag2.bx 36 [.int .i64 kind,.string (strOf na),.string (strOf nb),.int .i64 (f4:Nat),.int .i64 (a51:Nat),.int .i64 (n61:Nat),.int .u64 (t12:Nat),.int .i64 (s5:Nat),.slice A dl.length c]] opn Rc.any) 0 [(38,37,fun v=>v)] [[],[(0,4)],[],[(2,6)],[(3,7)],[],[(5,9)],[(6,10)],[(4,8),(7,11)],[(8,12)],[],[(10,14)],[(11,15)],[],[(13,17)],[(14,18)],[(12,16),(15,19)],[(16,20)],[],[(18,22)],[(19,23)],[],[(21,25)],[(22,26)],[],[(24,28)],[(25,29)],[],[(27,31)],[(28,32)],[],[(30,34)],[(31,35)],[],[(33,37)],[(34,38)],[(1,5),(9,13),(17,21),(20,24),(23,27),(26,30),(29,33),(32,36),(35,39)],[],[(37,3),(36,40)]] [[],[0],[],[2],[3],[],[5],[6],[4,7],[8],[],[10],[11],[],[13],[14],[12,15],[16],[],[18],[19],[],[21],[22],[],[24],[25],[],[27],[28],[],[30],[31],[],[33],[34],[1,9,17,20,23,26,29,32,35],[],[36,37]] [[],[0],[],[2],[3],[],[5],[6],[4,7],[8],[],[10],[11],[],[13],[14],[12,15],[16],[],[18],[19],[],[21],[22],[],[24],[25],[],[27],[28],[],[30],[31],[],[33],[34],[1,9,17,20,23,26,29,32,35],[],[37,36]] [(38,37)] (by kernel_rfl) (by rfl) (by kernel_rfl) (fun _=>False) (fun _ _=>False) Rc.Inv.none ?_ ?_
 ·intro fr ha
  have hz:fr.tmps.size=60:=by rw [ha];rfl
  have y1:fr.eval (.tmp 1)=.pointer (some ⟨g,0,none⟩):=by rw [ha];rfl
  clear ha
  refine .cons ?_ (.cons ?_ (.cons ?_ (.cons ?_ (.cons ?_ (.cons ?_ (.cons ?_ (.cons ?_ (.cons ?_ (.cons ?_ (.cons ?_ (.cons ?_ (.cons ?_ (.cons ?_ (.cons ?_ (.cons ?_ (.cons ?_ (.cons ?_ (.cons ?_ (.cons ?_ (.cons ?_ (.cons ?_ (.cons ?_ (.cons ?_ (.cons ?_ (.cons ?_ (.cons ?_ (.cons ?_ (.cons ?_ (.cons ?_ (.cons ?_ (.cons ?_ (.cons ?_ (.cons ?_ (.cons ?_ (.cons ?_ (.cons ?_ (.cons ?_ (.cons ?_ (.nil)))))))))))))))))))))))))))))))))))))))
  ·intro V S w2 HM HU HE
   have lw:Below W0.heap.size W0 w2:=Rc.Mod.below HM (fun _ h=>h.elim)
   have tb1:=(Rg.use_eval V fr 1 [] (by rw [hz];decide)).trans y1
   show Rg.Does1 _ _ V (Rg.putUse V [] fr) w2 _
   exact Ob.rc_mv (.pointer (some ⟨g,0,none⟩)) (by simp only [execOp,tb1];go_simp) rfl rfl True.intro
  ·intro V S w2 HM HU HE
   have lw:Below W0.heap.size W0 w2:=Rc.Mod.below HM (fun _ h=>h.elim)
   have h0:V 0=_:=HU.holds 0 (by decide)
   have tb4:=(Rg.use_eval V fr 4 [(0,4)] (by rw [hz];decide)).trans h0
   show Rg.Does1 _ _ V (Rg.putUse V [(0,4)] fr) w2 _
   have cl:=(lw.cell (p:=⟨g,0,none⟩) HZ0.out.lt).trans (HZ0.out.cell 0)
   exact Ob.rc_mv (.int .i64 kind) (by simp only [execOp,tb4];go_simp) rfl rfl True.intro
  ·intro V S w2 HM HU HE
   have lw:Below W0.heap.size W0 w2:=Rc.Mod.below HM (fun _ h=>h.elim)
   have tb1:=(Rg.use_eval V fr 1 [] (by rw [hz];decide)).trans y1
   show Rg.Does1 _ _ V (Rg.putUse V [] fr) w2 _
   exact Ob.rc_mv (.pointer (some ⟨g,1,none⟩)) (by simp only [execOp,tb1];go_simp) rfl rfl True.intro
  ·intro V S w2 HM HU HE
   have lw:Below W0.heap.size W0 w2:=Rc.Mod.below HM (fun _ h=>h.elim)
   have h2:V 2=_:=HU.holds 2 (by decide)
   have tb6:=(Rg.use_eval V fr 6 [(2,6)] (by rw [hz];decide)).trans h2
   show Rg.Does1 _ _ V (Rg.putUse V [(2,6)] fr) w2 _
   have cl:=(lw.cell (p:=⟨g,1,none⟩) HZ0.out.lt).trans (HZ0.out.cell 1)
   exact Ob.rc_mv (.string (strOf path)) (by simp only [execOp,tb6];go_simp) rfl rfl True.intro
  ·intro V S w2 HM HU HE
   have lw:Below W0.heap.size W0 w2:=Rc.Mod.below HM (fun _ h=>h.elim)
   have h3:V 3=_:=HU.holds 3 (by decide)
   have tb7:=(Rg.use_eval V fr 7 [(3,7)] (by rw [hz];decide)).trans h3
   show Rg.Does1 _ _ V (Rg.putUse V [(3,7)] fr) w2 _
   have hsz:=HS1.out
   exact Ob.rc_mv (.int .i64 (path.length:Nat)) (by simp only [execOp,resolve,List.map_toArray,List.map_cons,List.map_nil,tb7];go_simp) rfl rfl True.intro
  ·intro V S w2 HM HU HE
   have lw:Below W0.heap.size W0 w2:=Rc.Mod.below HM (fun _ h=>h.elim)
   have tb1:=(Rg.use_eval V fr 1 [] (by rw [hz];decide)).trans y1
   show Rg.Does1 _ _ V (Rg.putUse V [] fr) w2 _
   exact Ob.rc_mv (.pointer (some ⟨g,4,none⟩)) (by simp only [execOp,tb1];go_simp) rfl rfl True.intro
  ·intro V S w2 HM HU HE
   have lw:Below W0.heap.size W0 w2:=Rc.Mod.below HM (fun _ h=>h.elim)
   have h5:V 5=_:=HU.holds 5 (by decide)
   have tb9:=(Rg.use_eval V fr 9 [(5,9)] (by rw [hz];decide)).trans h5
   show Rg.Does1 _ _ V (Rg.putUse V [(5,9)] fr) w2 _
   have cl:=(lw.cell (p:=⟨g,4,none⟩) HZ0.out.lt).trans (HZ0.out.cell 4)
   exact Ob.rc_mv (.int .i64 at_) (by simp only [execOp,tb9];go_simp) rfl rfl True.intro
  ·intro V S w2 HM HU HE
   have lw:Below W0.heap.size W0 w2:=Rc.Mod.below HM (fun _ h=>h.elim)
   have h6:V 6=_:=HU.holds 6 (by decide)
   have tb10:=(Rg.use_eval V fr 10 [(6,10)] (by rw [hz];decide)).trans h6
   show Rg.Does1 _ _ V (Rg.putUse V [(6,10)] fr) w2 _
   exact Ob.rc_mv (.int .i64 (at_.tmod 7)) (by simp only [execOp,tb10];go_simp) rfl rfl True.intro
  ·intro V S w2 HM HU HE
   have lw:Below W0.heap.size W0 w2:=Rc.Mod.below HM (fun _ h=>h.elim)
   have h4:V 4=_:=HU.holds 4 (by decide)
   have tb8:=(Rg.use_eval V fr 8 [(4,8),(7,11)] (by rw [hz];decide)).trans h4
   have h7:V 7=_:=HU.holds 7 (by decide)
   have tb11:=(Rg.use_eval V fr 11 [(4,8),(7,11)] (by rw [hz];decide)).trans h7
   show Rg.Does1 _ _ V (Rg.putUse V [(4,8),(7,11)] fr) w2 _
   have hx1:=HX1.out
   exact Ob.rc_mv (.int .i64 x1) (by simp only [execOp,tb8,tb11];go_simp) rfl rfl True.intro
  ·intro V S w2 HM HU HE
   have lw:Below W0.heap.size W0 w2:=Rc.Mod.below HM (fun _ h=>h.elim)
   have h8:V 8=_:=HU.holds 8 (by decide)
   have tb12:=(Rg.use_eval V fr 12 [(8,12)] (by rw [hz];decide)).trans h8
   show Rg.Does1 _ _ V (Rg.putUse V [(8,12)] fr) w2 _
   exact Ob.step_tell (.string (strOf na)) #[.int .i64 x1] (fun args w=>Rg.call_enter Tryz.func54 (by kernel_rfl) (by kernel_rfl) args w) rfl (by simp only [List.map_toArray,List.map_cons,List.map_nil,tb12]) rfl (fun x=>Rg.alias_none rfl V x) True.intro (HNA.out w2)
  ·intro V S w2 HM HU HE
   have lw:Below W0.heap.size W0 w2:=Rc.Mod.below HM (fun _ h=>h.elim)
   have tb1:=(Rg.use_eval V fr 1 [] (by rw [hz];decide)).trans y1
   show Rg.Does1 _ _ V (Rg.putUse V [] fr) w2 _
   exact Ob.rc_mv (.pointer (some ⟨g,2,none⟩)) (by simp only [execOp,tb1];go_simp) rfl rfl True.intro
  ·intro V S w2 HM HU HE
   have lw:Below W0.heap.size W0 w2:=Rc.Mod.below HM (fun _ h=>h.elim)
   have h10:V 10=_:=HU.holds 10 (by decide)
   have tb14:=(Rg.use_eval V fr 14 [(10,14)] (by rw [hz];decide)).trans h10
   show Rg.Does1 _ _ V (Rg.putUse V [(10,14)] fr) w2 _
   have cl:=(lw.cell (p:=⟨g,2,none⟩) HZ0.out.lt).trans (HZ0.out.cell 2)
   exact Ob.rc_mv (.string (strOf dest)) (by simp only [execOp,tb14];go_simp) rfl rfl True.intro
  ·intro V S w2 HM HU HE
   have lw:Below W0.heap.size W0 w2:=Rc.Mod.below HM (fun _ h=>h.elim)
   have h11:V 11=_:=HU.holds 11 (by decide)
   have tb15:=(Rg.use_eval V fr 15 [(11,15)] (by rw [hz];decide)).trans h11
   show Rg.Does1 _ _ V (Rg.putUse V [(11,15)] fr) w2 _
   have hsz:=HS2.out
   exact Ob.rc_mv (.int .i64 (dest.length:Nat)) (by simp only [execOp,resolve,List.map_toArray,List.map_cons,List.map_nil,tb15];go_simp) rfl rfl True.intro
  ·intro V S w2 HM HU HE
   have lw:Below W0.heap.size W0 w2:=Rc.Mod.below HM (fun _ h=>h.elim)
   have tb1:=(Rg.use_eval V fr 1 [] (by rw [hz];decide)).trans y1
   show Rg.Does1 _ _ V (Rg.putUse V [] fr) w2 _
   exact Ob.rc_mv (.pointer (some ⟨g,5,none⟩)) (by simp only [execOp,tb1];go_simp) rfl rfl True.intro
  ·intro V S w2 HM HU HE
   have lw:Below W0.heap.size W0 w2:=Rc.Mod.below HM (fun _ h=>h.elim)
   have h13:V 13=_:=HU.holds 13 (by decide)
   have tb17:=(Rg.use_eval V fr 17 [(13,17)] (by rw [hz];decide)).trans h13
   show Rg.Does1 _ _ V (Rg.putUse V [(13,17)] fr) w2 _
   have cl:=(lw.cell (p:=⟨g,5,none⟩) HZ0.out.lt).trans (HZ0.out.cell 5)
   exact Ob.rc_mv (.int .i64 n) (by simp only [execOp,tb17];go_simp) rfl rfl True.intro
  ·intro V S w2 HM HU HE
   have lw:Below W0.heap.size W0 w2:=Rc.Mod.below HM (fun _ h=>h.elim)
   have h14:V 14=_:=HU.holds 14 (by decide)
   have tb18:=(Rg.use_eval V fr 18 [(14,18)] (by rw [hz];decide)).trans h14
   show Rg.Does1 _ _ V (Rg.putUse V [(14,18)] fr) w2 _
   exact Ob.rc_mv (.int .i64 (n.tmod 7)) (by simp only [execOp,tb18];go_simp) rfl rfl True.intro
  ·intro V S w2 HM HU HE
   have lw:Below W0.heap.size W0 w2:=Rc.Mod.below HM (fun _ h=>h.elim)
   have h12:V 12=_:=HU.holds 12 (by decide)
   have tb16:=(Rg.use_eval V fr 16 [(12,16),(15,19)] (by rw [hz];decide)).trans h12
   have h15:V 15=_:=HU.holds 15 (by decide)
   have tb19:=(Rg.use_eval V fr 19 [(12,16),(15,19)] (by rw [hz];decide)).trans h15
   show Rg.Does1 _ _ V (Rg.putUse V [(12,16),(15,19)] fr) w2 _
   have hx2:=HX2.out
   exact Ob.rc_mv (.int .i64 x2) (by simp only [execOp,tb16,tb19];go_simp) rfl rfl True.intro
  ·intro V S w2 HM HU HE
   have lw:Below W0.heap.size W0 w2:=Rc.Mod.below HM (fun _ h=>h.elim)
   have h16:V 16=_:=HU.holds 16 (by decide)
   have tb20:=(Rg.use_eval V fr 20 [(16,20)] (by rw [hz];decide)).trans h16
   show Rg.Does1 _ _ V (Rg.putUse V [(16,20)] fr) w2 _
   exact Ob.step_tell (.string (strOf nb)) #[.int .i64 x2] (fun args w=>Rg.call_enter Tryz.func54 (by kernel_rfl) (by kernel_rfl) args w) rfl (by simp only [List.map_toArray,List.map_cons,List.map_nil,tb20]) rfl (fun x=>Rg.alias_none rfl V x) True.intro (HNB.out w2)
  ·intro V S w2 HM HU HE
   have lw:Below W0.heap.size W0 w2:=Rc.Mod.below HM (fun _ h=>h.elim)
   have tb1:=(Rg.use_eval V fr 1 [] (by rw [hz];decide)).trans y1
   show Rg.Does1 _ _ V (Rg.putUse V [] fr) w2 _
   exact Ob.rc_mv (.pointer (some ⟨g,3,none⟩)) (by simp only [execOp,tb1];go_simp) rfl rfl True.intro
  ·intro V S w2 HM HU HE
   have lw:Below W0.heap.size W0 w2:=Rc.Mod.below HM (fun _ h=>h.elim)
   have h18:V 18=_:=HU.holds 18 (by decide)
   have tb22:=(Rg.use_eval V fr 22 [(18,22)] (by rw [hz];decide)).trans h18
   show Rg.Does1 _ _ V (Rg.putUse V [(18,22)] fr) w2 _
   have cl:=(lw.cell (p:=⟨g,3,none⟩) HZ0.out.lt).trans (HZ0.out.cell 3)
   exact Ob.rc_mv (.int .i64 fd) (by simp only [execOp,tb22];go_simp) rfl rfl True.intro
  ·intro V S w2 HM HU HE
   have lw:Below W0.heap.size W0 w2:=Rc.Mod.below HM (fun _ h=>h.elim)
   have h19:V 19=_:=HU.holds 19 (by decide)
   have tb23:=(Rg.use_eval V fr 23 [(19,23)] (by rw [hz];decide)).trans h19
   show Rg.Does1 _ _ V (Rg.putUse V [(19,23)] fr) w2 _
   exact Ob.step_tell (.int .i64 (f4:Nat)) #[.int .i64 fd,.int .i64 0,.int .i64 3] (fun args w=>Rg.call_enter Tryz.func30 (by kernel_rfl) (by kernel_rfl) args w) rfl (by simp only [List.map_toArray,List.map_cons,List.map_nil,Rg.eval_const,tb23]) rfl (fun x=>Rg.alias_none rfl V x) True.intro (HF4.out w2)
  ·intro V S w2 HM HU HE
   have lw:Below W0.heap.size W0 w2:=Rc.Mod.below HM (fun _ h=>h.elim)
   have tb1:=(Rg.use_eval V fr 1 [] (by rw [hz];decide)).trans y1
   show Rg.Does1 _ _ V (Rg.putUse V [] fr) w2 _
   exact Ob.rc_mv (.pointer (some ⟨g,4,none⟩)) (by simp only [execOp,tb1];go_simp) rfl rfl True.intro
  ·intro V S w2 HM HU HE
   have lw:Below W0.heap.size W0 w2:=Rc.Mod.below HM (fun _ h=>h.elim)
   have h21:V 21=_:=HU.holds 21 (by decide)
   have tb25:=(Rg.use_eval V fr 25 [(21,25)] (by rw [hz];decide)).trans h21
   show Rg.Does1 _ _ V (Rg.putUse V [(21,25)] fr) w2 _
   have cl:=(lw.cell (p:=⟨g,4,none⟩) HZ0.out.lt).trans (HZ0.out.cell 4)
   exact Ob.rc_mv (.int .i64 at_) (by simp only [execOp,tb25];go_simp) rfl rfl True.intro
  ·intro V S w2 HM HU HE
   have lw:Below W0.heap.size W0 w2:=Rc.Mod.below HM (fun _ h=>h.elim)
   have h22:V 22=_:=HU.holds 22 (by decide)
   have tb26:=(Rg.use_eval V fr 26 [(22,26)] (by rw [hz];decide)).trans h22
   show Rg.Does1 _ _ V (Rg.putUse V [(22,26)] fr) w2 _
   exact Ob.step_tell (.int .i64 (a51:Nat)) #[.int .i64 at_,.int .i64 0,.int .i64 50] (fun args w=>Rg.call_enter Tryz.func30 (by kernel_rfl) (by kernel_rfl) args w) rfl (by simp only [List.map_toArray,List.map_cons,List.map_nil,Rg.eval_const,tb26]) rfl (fun x=>Rg.alias_none rfl V x) True.intro (HA51.out w2)
  ·intro V S w2 HM HU HE
   have lw:Below W0.heap.size W0 w2:=Rc.Mod.below HM (fun _ h=>h.elim)
   have tb1:=(Rg.use_eval V fr 1 [] (by rw [hz];decide)).trans y1
   show Rg.Does1 _ _ V (Rg.putUse V [] fr) w2 _
   exact Ob.rc_mv (.pointer (some ⟨g,5,none⟩)) (by simp only [execOp,tb1];go_simp) rfl rfl True.intro
  ·intro V S w2 HM HU HE
   have lw:Below W0.heap.size W0 w2:=Rc.Mod.below HM (fun _ h=>h.elim)
   have h24:V 24=_:=HU.holds 24 (by decide)
   have tb28:=(Rg.use_eval V fr 28 [(24,28)] (by rw [hz];decide)).trans h24
   show Rg.Does1 _ _ V (Rg.putUse V [(24,28)] fr) w2 _
   have cl:=(lw.cell (p:=⟨g,5,none⟩) HZ0.out.lt).trans (HZ0.out.cell 5)
   exact Ob.rc_mv (.int .i64 n) (by simp only [execOp,tb28];go_simp) rfl rfl True.intro
  ·intro V S w2 HM HU HE
   have lw:Below W0.heap.size W0 w2:=Rc.Mod.below HM (fun _ h=>h.elim)
   have h25:V 25=_:=HU.holds 25 (by decide)
   have tb29:=(Rg.use_eval V fr 29 [(25,29)] (by rw [hz];decide)).trans h25
   show Rg.Does1 _ _ V (Rg.putUse V [(25,29)] fr) w2 _
   exact Ob.step_tell (.int .i64 (n61:Nat)) #[.int .i64 n,.int .i64 0,.int .i64 60] (fun args w=>Rg.call_enter Tryz.func30 (by kernel_rfl) (by kernel_rfl) args w) rfl (by simp only [List.map_toArray,List.map_cons,List.map_nil,Rg.eval_const,tb29]) rfl (fun x=>Rg.alias_none rfl V x) True.intro (HN61.out w2)
  ·intro V S w2 HM HU HE
   have lw:Below W0.heap.size W0 w2:=Rc.Mod.below HM (fun _ h=>h.elim)
   have tb1:=(Rg.use_eval V fr 1 [] (by rw [hz];decide)).trans y1
   show Rg.Does1 _ _ V (Rg.putUse V [] fr) w2 _
   exact Ob.rc_mv (.pointer (some ⟨g,6,none⟩)) (by simp only [execOp,tb1];go_simp) rfl rfl True.intro
  ·intro V S w2 HM HU HE
   have lw:Below W0.heap.size W0 w2:=Rc.Mod.below HM (fun _ h=>h.elim)
   have h27:V 27=_:=HU.holds 27 (by decide)
   have tb31:=(Rg.use_eval V fr 31 [(27,31)] (by rw [hz];decide)).trans h27
   show Rg.Does1 _ _ V (Rg.putUse V [(27,31)] fr) w2 _
   have cl:=(lw.cell (p:=⟨g,6,none⟩) HZ0.out.lt).trans (HZ0.out.cell 6)
   exact Ob.rc_mv (.int .u64 (till:Nat)) (by simp only [execOp,tb31];go_simp) rfl rfl True.intro
  ·intro V S w2 HM HU HE
   have lw:Below W0.heap.size W0 w2:=Rc.Mod.below HM (fun _ h=>h.elim)
   have h28:V 28=_:=HU.holds 28 (by decide)
   have tb32:=(Rg.use_eval V fr 32 [(28,32)] (by rw [hz];decide)).trans h28
   show Rg.Does1 _ _ V (Rg.putUse V [(28,32)] fr) w2 _
   have ht12:=HT12.out
   exact Ob.rc_mv (.int .u64 (t12:Nat)) (by simp only [execOp,tb32];go_simp) rfl rfl True.intro
  ·intro V S w2 HM HU HE
   have lw:Below W0.heap.size W0 w2:=Rc.Mod.below HM (fun _ h=>h.elim)
   have tb1:=(Rg.use_eval V fr 1 [] (by rw [hz];decide)).trans y1
   show Rg.Does1 _ _ V (Rg.putUse V [] fr) w2 _
   exact Ob.rc_mv (.pointer (some ⟨g,7,none⟩)) (by simp only [execOp,tb1];go_simp) rfl rfl True.intro
  ·intro V S w2 HM HU HE
   have lw:Below W0.heap.size W0 w2:=Rc.Mod.below HM (fun _ h=>h.elim)
   have h30:V 30=_:=HU.holds 30 (by decide)
   have tb34:=(Rg.use_eval V fr 34 [(30,34)] (by rw [hz];decide)).trans h30
   show Rg.Does1 _ _ V (Rg.putUse V [(30,34)] fr) w2 _
   have cl:=(lw.cell (p:=⟨g,7,none⟩) HZ0.out.lt).trans (HZ0.out.cell 7)
   exact Ob.rc_mv (.int .i64 snap) (by simp only [execOp,tb34];go_simp) rfl rfl True.intro
  ·intro V S w2 HM HU HE
   have lw:Below W0.heap.size W0 w2:=Rc.Mod.below HM (fun _ h=>h.elim)
   have h31:V 31=_:=HU.holds 31 (by decide)
   have tb35:=(Rg.use_eval V fr 35 [(31,35)] (by rw [hz];decide)).trans h31
   show Rg.Does1 _ _ V (Rg.putUse V [(31,35)] fr) w2 _
   exact Ob.step_tell (.int .i64 (s5:Nat)) #[.int .i64 snap,.int .i64 0,.int .i64 4] (fun args w=>Rg.call_enter Tryz.func30 (by kernel_rfl) (by kernel_rfl) args w) rfl (by simp only [List.map_toArray,List.map_cons,List.map_nil,Rg.eval_const,tb35]) rfl (fun x=>Rg.alias_none rfl V x) True.intro (HS5.out w2)
  ·intro V S w2 HM HU HE
   have lw:Below W0.heap.size W0 w2:=Rc.Mod.below HM (fun _ h=>h.elim)
   have tb1:=(Rg.use_eval V fr 1 [] (by rw [hz];decide)).trans y1
   show Rg.Does1 _ _ V (Rg.putUse V [] fr) w2 _
   exact Ob.rc_mv (.pointer (some ⟨g,8,none⟩)) (by simp only [execOp,tb1];go_simp) rfl rfl True.intro
  ·intro V S w2 HM HU HE
   have lw:Below W0.heap.size W0 w2:=Rc.Mod.below HM (fun _ h=>h.elim)
   have h33:V 33=_:=HU.holds 33 (by decide)
   have tb37:=(Rg.use_eval V fr 37 [(33,37)] (by rw [hz];decide)).trans h33
   show Rg.Does1 _ _ V (Rg.putUse V [(33,37)] fr) w2 _
   have cl:=(lw.cell (p:=⟨g,8,none⟩) HZ0.out.lt).trans (HZ0.out.cell 8)
   exact Ob.rc_mv (.slice A data.length c) (by simp only [execOp,tb37];go_simp) rfl rfl True.intro
  ·intro V S w2 HM HU HE
   have lw:Below W0.heap.size W0 w2:=Rc.Mod.below HM (fun _ h=>h.elim)
   have h34:V 34=_:=HU.holds 34 (by decide)
   have tb38:=(Rg.use_eval V fr 38 [(34,38)] (by rw [hz];decide)).trans h34
   show Rg.Does1 _ _ V (Rg.putUse V [(34,38)] fr) w2 _
   exact Ob.step_tell (.slice A dl.length c) #[.slice A data.length c,.int .i64 40] (fun args w=>Rg.call_enter Tryz.func14 (by kernel_rfl) (by kernel_rfl) args w) rfl (by simp only [List.map_toArray,List.map_cons,List.map_nil,Rg.eval_const,tb38]) rfl (fun x=>Rg.alias_none rfl V x) True.intro (HCU.out w2)
  ·intro V S w2 HM HU HE
   have lw:Below W0.heap.size W0 w2:=Rc.Mod.below HM (fun _ h=>h.elim)
   have h1:V 1=_:=HU.holds 1 (by decide)
   have tb5:=(Rg.use_eval V fr 5 [(1,5),(9,13),(17,21),(20,24),(23,27),(26,30),(29,33),(32,36),(35,39)] (by rw [hz];decide)).trans h1
   have h9:V 9=_:=HU.holds 9 (by decide)
   have tb13:=(Rg.use_eval V fr 13 [(1,5),(9,13),(17,21),(20,24),(23,27),(26,30),(29,33),(32,36),(35,39)] (by rw [hz];decide)).trans h9
   have h17:V 17=_:=HU.holds 17 (by decide)
   have tb21:=(Rg.use_eval V fr 21 [(1,5),(9,13),(17,21),(20,24),(23,27),(26,30),(29,33),(32,36),(35,39)] (by rw [hz];decide)).trans h17
   have h20:V 20=_:=HU.holds 20 (by decide)
   have tb24:=(Rg.use_eval V fr 24 [(1,5),(9,13),(17,21),(20,24),(23,27),(26,30),(29,33),(32,36),(35,39)] (by rw [hz];decide)).trans h20
   have h23:V 23=_:=HU.holds 23 (by decide)
   have tb27:=(Rg.use_eval V fr 27 [(1,5),(9,13),(17,21),(20,24),(23,27),(26,30),(29,33),(32,36),(35,39)] (by rw [hz];decide)).trans h23
   have h26:V 26=_:=HU.holds 26 (by decide)
   have tb30:=(Rg.use_eval V fr 30 [(1,5),(9,13),(17,21),(20,24),(23,27),(26,30),(29,33),(32,36),(35,39)] (by rw [hz];decide)).trans h26
   have h29:V 29=_:=HU.holds 29 (by decide)
   have tb33:=(Rg.use_eval V fr 33 [(1,5),(9,13),(17,21),(20,24),(23,27),(26,30),(29,33),(32,36),(35,39)] (by rw [hz];decide)).trans h29
   have h32:V 32=_:=HU.holds 32 (by decide)
   have tb36:=(Rg.use_eval V fr 36 [(1,5),(9,13),(17,21),(20,24),(23,27),(26,30),(29,33),(32,36),(35,39)] (by rw [hz];decide)).trans h32
   have h35:V 35=_:=HU.holds 35 (by decide)
   have tb39:=(Rg.use_eval V fr 39 [(1,5),(9,13),(17,21),(20,24),(23,27),(26,30),(29,33),(32,36),(35,39)] (by rw [hz];decide)).trans h35
   show Rg.Does1 _ _ V (Rg.putUse V [(1,5),(9,13),(17,21),(20,24),(23,27),(26,30),(29,33),(32,36),(35,39)] fr) w2 _
   exact Ob.rc_mv (.agg #[.int .i64 kind,.string (strOf na),.string (strOf nb),.int .i64 (f4:Nat),.int .i64 (a51:Nat),.int .i64 (n61:Nat),.int .u64 (t12:Nat),.int .i64 (s5:Nat),.slice A dl.length c]) (by simp only [execOp,resolve,List.map_toArray,List.map_cons,List.map_nil,tb5,tb13,tb21,tb24,tb27,tb30,tb33,tb36,tb39];go_simp) rfl rfl True.intro
  ·intro V S w2 HM HU HE
   have lw:Below W0.heap.size W0 w2:=Rc.Mod.below HM (fun _ h=>h.elim)
   show Rg.Does1 _ _ V (Rg.putUse V [] fr) w2 _
   exact Ag2.step_alloc 36 [.int .i64 0,.string ⟨#[]⟩,.string ⟨#[]⟩,.int .i64 0,.int .i64 0,.int .i64 0,.int .u64 0,.int .i64 0,.slice none 0 0] rfl (fun x=>Rg.alias_none rfl V x) True.intro (by go_simp)
  ·intro V S w2 HM HU HE
   have lw:Below W0.heap.size W0 w2:=Rc.Mod.below HM (fun _ h=>h.elim)
   have tb3:=(Rg.use_eval V fr 3 [(37,3),(36,40)] (by rw [hz];decide)).trans rfl
   have h36:V 36=_:=HU.holds 36 (by decide)
   have tb40:=(Rg.use_eval V fr 40 [(37,3),(36,40)] (by rw [hz];decide)).trans h36
   show Rg.Does1 _ _ V (Rg.putUse V [(37,3),(36,40)] fr) w2 _
   exact Ag2.step_put (n0:=37) 36 [.int .i64 kind,.string (strOf na),.string (strOf nb),.int .i64 (f4:Nat),.int .i64 (a51:Nat),.int .i64 (n61:Nat),.int .u64 (t12:Nat),.int .i64 (s5:Nat),.slice A dl.length c] _ _ rfl rfl tb3 tb40 rfl (by decide) (HU.holds 37 (by decide)) (Rg.alias_one (i:=37) (f:=fun v=>v) rfl V) True.intro rfl rfl (by simp [Value.oneCell'])
 intro V S w2 HI
 have HL2:Hid (Below W0.heap.size W0 w2):=Rc.Mod.below HI.mod.undrew (fun _ h=>h.elim)
 obtain ⟨g38,hv38,hb38,hs38⟩:=HI.get 38 (by decide) (by rfl)
 have HNW38:Hid (W0.heap.size≤g38):=(HI.lt 38 g38 ⟨by decide,fun k _ h=>by simp at h⟩ hs38).2.resolve_left id
 have hw38:V 37=.pointer (some ⟨g38,0,none⟩):=(HI.same 38 37 (fun v=>v) (by decide) (by simp)).symm.trans hv38
 have HX38:Hid (Blk w2 g38 36 [.int .i64 kind,.string (strOf na),.string (strOf nb),.int .i64 (f4:Nat),.int .i64 (a51:Nat),.int .i64 (n61:Nat),.int .u64 (t12:Nat),.int .i64 (s5:Nat),.slice A dl.length c]):=hb38
 clear hv38 hb38 hs38
 simp only [Rg.putList,Act.put,List.setIfInBounds_toArray,List.set_cons_zero,List.set_cons_succ,Nat.zero_add,Nat.reduceAdd]
 rw [hw38]
 clear HI hw38
 have HB2:Hid (Below w.heap.size w w2):=HB0.out.trans (HL2.out.mono HB0.out.size)
 have HZ2:Hid (Blk w2 g 36 [.int .i64 kind,.string (strOf path),.string (strOf dest),.int .i64 fd,.int .i64 at_,.int .i64 n,.int .u64 (till:Nat),.int .i64 snap,.slice A data.length c]):=HZ0.out.below HL2.out HZ0.out.lt
 have HR2:Hid (Blk w2 (g+1) 36 [.int .i64 0,.string ⟨#[]⟩,.string ⟨#[]⟩,.int .i64 0,.int .i64 0,.int .i64 0,.int .u64 0,.int .i64 0,.slice none 0 0]):=HR0.out.below HL2.out HR0.out.lt
 have HNE:Hid (g+1≠g38):=fun e=>by
  have:=HR0.out.lt
  have:=HNW38.out
  omega
 by_cases hk:kind=3∨kind=11∨kind=12
 ·have HK:Hid ((if (kind=3∨kind=11∨kind=12)∧snap.tmod 3≠0 then (0:Int) else (s5:Nat))=if snap.tmod 3≠0 then (0:Int) else (s5:Nat)):=by
   show _=_
   by_cases h9:snap.tmod 3≠0
   ·rw [if_pos ⟨hk,h9⟩,if_pos h9]
   ·rw [if_neg (fun h=>h9 h.2),if_neg h9]
  by_cases hs:snap.tmod 3=0
  ·have HQ:Hid (sv=(s5:Nat)):=by show _=_;rw [HSV.out,HK.out,if_neg (fun h=>h hs)]
   clear HK
   rcases hk with rfl|rfl|rfl
   all_goals
    have o0:=HZ2.out.cell 0
    have o7:=HZ2.out.cell 7
    have x0:=HX38.out.cell 0
    have x1:=HX38.out.cell 1
    have x2:=HX38.out.cell 2
    have x3:=HX38.out.cell 3
    have x4:=HX38.out.cell 4
    have x5:=HX38.out.cell 5
    have x6:=HX38.out.cell 6
    have x7:=HX38.out.cell 7
    have x8:=HX38.out.cell 8
    have r0:=HR2.out.cell 0
    have q0:=HR2.out.frozen 0
    have r1:=HR2.out.cell 1
    have q1:=HR2.out.frozen 1
    have r2:=HR2.out.cell 2
    have q2:=HR2.out.frozen 2
    have r3:=HR2.out.cell 3
    have q3:=HR2.out.frozen 3
    have r4:=HR2.out.cell 4
    have q4:=HR2.out.frozen 4
    have r5:=HR2.out.cell 5
    have q5:=HR2.out.frozen 5
    have r6:=HR2.out.cell 6
    have q6:=HR2.out.frozen 6
    have r7:=HR2.out.cell 7
    have q7:=HR2.out.frozen 7
    have r8:=HR2.out.cell 8
    have q8:=HR2.out.frozen 8
    go_wp2_with fail
    refine bodyPost_ret (results_blk1 rfl _ _ (g+1) 36 _ _ rfl (set9 HR2.out _ _ _ _ _ _ _ _ _) rfl rfl rfl) rfl ⟨by rw [HQ.out],set9_below HB2.out (Nat.le_trans HGG.out (Nat.le_succ g)) _ _ _ _ _ _ _ _ _⟩
  ·have hs2:(snap.tmod 3==0)=false:=by rw [beq_eq_false_iff_ne];exact hs
   have HQ:Hid (sv=0):=by show _=_;rw [HSV.out,HK.out,if_pos hs]
   clear HK
   have HX3:Hid (Blk (w2.setCell ⟨g38,7,none⟩ (.int .i64 0)) g38 36 _):=HX38.out.set_ 7 _
   have HR3:Hid (Blk (w2.setCell ⟨g38,7,none⟩ (.int .i64 0)) (g+1) 36 [.int .i64 0,.string ⟨#[]⟩,.string ⟨#[]⟩,.int .i64 0,.int .i64 0,.int .i64 0,.int .u64 0,.int .i64 0,.slice none 0 0]):=HR2.out.far HNE.out _
   have HB3:Hid (Below w.heap.size w (w2.setCell ⟨g38,7,none⟩ (.int .i64 0))):=below_set1 HB2.out (by have:=HNW38.out;have:=HB0.out.size;omega) 7 _
   rcases hk with rfl|rfl|rfl
   all_goals
    have o0:=HZ2.out.cell 0
    have o7:=HZ2.out.cell 7
    have x7:=HX38.out.cell 7
    have f7:=HX38.out.frozen 7
    have y0:=HX3.out.cell 0
    have y1:=HX3.out.cell 1
    have y2:=HX3.out.cell 2
    have y3:=HX3.out.cell 3
    have y4:=HX3.out.cell 4
    have y5:=HX3.out.cell 5
    have y6:=HX3.out.cell 6
    have y7:=HX3.out.cell 7
    have y8:=HX3.out.cell 8
    have r0:=HR3.out.cell 0
    have q0:=HR3.out.frozen 0
    have r1:=HR3.out.cell 1
    have q1:=HR3.out.frozen 1
    have r2:=HR3.out.cell 2
    have q2:=HR3.out.frozen 2
    have r3:=HR3.out.cell 3
    have q3:=HR3.out.frozen 3
    have r4:=HR3.out.cell 4
    have q4:=HR3.out.frozen 4
    have r5:=HR3.out.cell 5
    have q5:=HR3.out.frozen 5
    have r6:=HR3.out.cell 6
    have q6:=HR3.out.frozen 6
    have r7:=HR3.out.cell 7
    have q7:=HR3.out.frozen 7
    have r8:=HR3.out.cell 8
    have q8:=HR3.out.frozen 8
    go_wp2_with fail
    refine bodyPost_ret (results_blk1 rfl _ _ (g+1) 36 _ _ rfl (set9 HR3.out _ _ _ _ _ _ _ _ _) rfl rfl rfl) rfl ⟨by rw [HQ.out],set9_below HB3.out (Nat.le_trans HGG.out (Nat.le_succ g)) _ _ _ _ _ _ _ _ _⟩
 ·have HQ:Hid (sv=(s5:Nat)):=by show _=_;rw [HSV.out,if_neg (fun h=>hk h.1)]
  have k3:(kind==3)=false:=by rw [beq_eq_false_iff_ne];exact fun e=>hk (.inl e)
  have k11:(kind==11)=false:=by rw [beq_eq_false_iff_ne];exact fun e=>hk (.inr (.inl e))
  have k12:(kind==12)=false:=by rw [beq_eq_false_iff_ne];exact fun e=>hk (.inr (.inr e))
  clear hk
  have o0:=HZ2.out.cell 0
  have x0:=HX38.out.cell 0
  have x1:=HX38.out.cell 1
  have x2:=HX38.out.cell 2
  have x3:=HX38.out.cell 3
  have x4:=HX38.out.cell 4
  have x5:=HX38.out.cell 5
  have x6:=HX38.out.cell 6
  have x7:=HX38.out.cell 7
  have x8:=HX38.out.cell 8
  have r0:=HR2.out.cell 0
  have q0:=HR2.out.frozen 0
  have r1:=HR2.out.cell 1
  have q1:=HR2.out.frozen 1
  have r2:=HR2.out.cell 2
  have q2:=HR2.out.frozen 2
  have r3:=HR2.out.cell 3
  have q3:=HR2.out.frozen 3
  have r4:=HR2.out.cell 4
  have q4:=HR2.out.frozen 4
  have r5:=HR2.out.cell 5
  have q5:=HR2.out.frozen 5
  have r6:=HR2.out.cell 6
  have q6:=HR2.out.frozen 6
  have r7:=HR2.out.cell 7
  have q7:=HR2.out.frozen 7
  have r8:=HR2.out.cell 8
  have q8:=HR2.out.frozen 8
  go_wp2_with fail
  refine bodyPost_ret (results_blk1 rfl _ _ (g+1) 36 _ _ rfl (set9 HR2.out _ _ _ _ _ _ _ _ _) rfl rfl rfl) rfl ⟨by rw [HQ.out],set9_below HB2.out (Nat.le_trans HGG.out (Nat.le_succ g)) _ _ _ _ _ _ _ _ _⟩
end Kp
end Go.Proofs.YtbnpgakmhhfjkaaGreatDoor
