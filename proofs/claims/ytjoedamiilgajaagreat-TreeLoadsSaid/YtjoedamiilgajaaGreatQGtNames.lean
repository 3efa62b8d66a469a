/-
  OWN WORK. The program's tree: Names.
-/
import Derived.Test.YtjoedamiilgajaaGreatQGtEye
import Derived.Test.YtjoedamiilgajaaGreatQGtSorted
import Derived.Deep.CutBlock
import Derived.Shelf.SlSortCmp.NoneTotal
namespace Go.Proofs.YtjoedamiilgajaaGreat
open Go.RowKit Rc
open Tr (Nm En T)
namespace Gt
open Tm (Eye Shows Shown EAt TIn TrS ptrOf WPre WMid SOwn)
theorem wpList_append_lrows {w:World} {ops:Array Oper} {rest:List Oper} {o:Oper} {a:Act} {Q:Exit→Act→World→Prop} (hgd:o.guard=none) (s x:Operand)
    (ho:o.op=.call { callee:=.builtin .append,args:=#[s,x],argTypes:=#[27,27] })
    {v y:Value} {L L2:List (List Bs)} {S S2:Nat→Prop} (hs:a.eval s=v) (hx:a.eval x=y) (h:Ms.LOwn 0 Ms.noOld v L S w) (h2:Ms.LOwn 0 Ms.noOld y L2 S2 w) (hpos:0<L2.length) (hsep:∀ b,S b→¬ S2 b) (hlt:∀ b,S b∨S2 b→b<w.heap.size) (hn:L.length+L2.length≤1000000000)
    (k:∀ v' w',Ms.LOwn 0 Ms.noOld v' (L++L2) (fun b=>(S b∨S2 b)∨v'.ownBlock=some b) w'→w.grownBy w' v.ownBlock→(v'.ownBlock=v.ownBlock∨v'.ownBlock=some w.heap.size)→(∀ b,v'.ownBlock=some b→b<w'.heap.size)→wpList Tryz.prog ops Q rest (a.put o.dst v') w'):wpList Tryz.prog ops Q (o :: rest) a w:=by
 refine wpList_plain hgd fun K hK=>?_
 obtain ⟨v',w',hr,r2,r3,r4,r5⟩:=Ms.run_append_rows o.type h h2 hpos hsep hlt (Nat.zero_le _) hn
 unfold Oper.wp execOp
 simp only [ho,resolve,invoke,builtin,Sem.run_bind,Sem.run_pure,Result.andThen_ok,List.map_toArray,List.map_cons,List.map_nil,hs,hx,hr]
 exact hK _ _ (k v' w' r2 r3 r4 r5)
theorem sort_none (A:Option Addr) (cap:Nat) (fv:Value) (w:World):Calls Tryz.prog 92 #[.slice A 0 cap,fv] w fun e w'=>e=.returned (.tuple #[])∧w'=w :=
 AnyF.slices_SortFunc_none (P:=Tryz.prog) (ρ:=Tryz.laysSlF6_f92_ren) { Tryz.laysSlF6_f92 with } A cap fv w
theorem mod_below {a b:World} {S:Nat→Prop} {n:Nat} (h:Mod a b S) (hS:∀ k,S k→n≤k) (hn:n≤a.heap.size):Below n a b :=
 ⟨h.os,h.tape,h.output,h.size,fun k hk=>h.block k (Nat.lt_of_lt_of_le hk hn) fun h1=>by have:=hS k h1;omega⟩
theorem lown_up {B:Nat} {O:Option Addr→List Bs→Prop} {x:Value} {L:List (List Bs)} {S:Nat→Prop} {w:World} (h:Ms.LOwn 0 O x L S w) (hS:∀ b,S b→B≤b):Ms.LOwn B O x L S w:=by
 obtain ⟨xs,h1,h2,h3⟩:=h
 refine ⟨xs,⟨h1.1,?_⟩,h2,h3⟩
 rcases h1.2 with h4|⟨g,cap,cur,rfl,_,h5⟩
 ·exact .inl h4
 ·exact .inr ⟨g,cap,cur,rfl,hS g (h2 g rfl),h5⟩
theorem lown_own {x:Value} {L:List (List Bs)} {S:Nat→Prop} {w:World} (h:Ms.LOwn 0 Ms.noOld x L S w) {b:Nat} (hb:x.ownBlock=some b):S b:=by
 obtain ⟨_,_,h2,_⟩:=h
 exact h2 b hb
def raw (t:T) (i:Int):List (List Bs):=(if i=0 then [[]] else [])++mine i (Tr.walk t 64 0 [])
def NAns (t:T) (i:Int) (w:World) (e:Ending) (w':World):Prop :=
 ∃ (x:Value) (L:List (List Bs)),e=.returned x∧L.Perm (raw t i)∧L.Pairwise (fun p q=>Tr.less (Pa.join q) (Pa.join p)=false)∧Ms.LNew L w x w'∧Below w.heap.size w w'
set_option maxHeartbeats 4000000 in
set_option maxRecDepth 100000 in
theorem names_any {p:Nat} {av:Value} {gs:List Nat} {S:Nat→Prop} {t:T} {w:World} (h:TIn p av gs S t w) (hG:Tr.Good t) (i:Int) (hfew:(Tr.walk t 64 0 []).length≤90000000) (hj:∀ y ∈ raw t i,(Dr.joined y).length≤140737488355328) :
    Calls Tryz.prog 34 #[.pointer (some ⟨p,0,none⟩),.int .i64 i] w (NAns t i w):=by
 obtain ⟨L0,hL0⟩:∃ L0:List (List Bs),L0=if i=0 then [[]] else []:=⟨_,rfl⟩
 have HIN:=Lib.hid h
 have HG:=Lib.hid hG
 have HL0:=Lib.hid hL0
 clear h hG hL0
 go_enter Tryz.func34,Tryz.ntmps34
 obtain ⟨lb,hlb⟩:∃ lb,lb=w.heap.size+1:=⟨_,rfl⟩
 have HLB:=Lib.hid hlb
 go_upto_region 2 with (fail)
 refine wp_world (fun W=>Hid (Blk W w.heap.size 3 [.int .i64 i])∧Hid (Blk W (w.heap.size+1) 27 [.slice none 0 0])∧Hid (Below w.heap.size w W)∧Hid (W.heap.size=w.heap.size+2)) ⟨?_,?_,?_,?_⟩ ?_
 ·exact (Blk.new w _ _).below (bN _ _) (by rw [World.size_alloc];omega)
 ·have:=Blk.new (w.alloc (.cells #[.int .i64 i] 3)) 27 [.slice none 0 0]
  rw [World.size_alloc] at this
  exact this
 ·have h1:=bN w (.cells #[.int .i64 i] 3)
  exact h1.trans ((bN _ _).mono h1.size)
 ·show _=_
  simp
 rw [← hlb]
 clear hlb
 rintro w1 ⟨HIDB,HBOX,HW1,HSZ⟩
 have ci1:w1.cell? ⟨w.heap.size,0,none⟩=some (.int .i64 i):=HIDB.out.cell 0
 go_upto_if 7 with (fail)
 go_cut [5] (fun t5 wx=>∃ (WX:World) (v:Value) (S' B:Nat→Prop),WX=wx∧t5=.pointer (some ⟨lb,0,none⟩)∧Hid (NAt w.heap.size lb i (L0++mine i []) v S' B WX)∧Hid (∀ b,B b→w.heap.size≤b)∧Hid (Below w.heap.size w WX))
 case first =>
  by_cases hi:i=0
  ·have hz:(i==0)=true:=by simpa using hi
   have hl:L0=[[]]:=by rw [HL0.out,if_pos hi]
   obtain ⟨wa,hwa⟩:∃ wa,wa=w1.alloc (.cells #[.slice none 0 0] 26):=⟨_,rfl⟩
   have hone:Ms.LOwn 0 Ms.noOld (.slice (some ⟨w1.heap.size,0,none⟩) 1 1) [[]] (fun b=>False∨b=w1.heap.size) wa:=by
    rw [hwa]
    exact (Ms.LOwn.one (w:=w1) (A:=none) (y:=[]) (c:=0) (O:=Ms.noOld) (S:=fun _=>False) (Nat.le_refl _) (.inl ⟨fun h=>absurd h (Nat.lt_irrefl 0),fun b hb=>nomatch hb⟩)).mono (Nat.zero_le _) (fun _ _ h=>h) (fun _ h=>h)
   have hnil:Ms.LOwn 0 Ms.noOld (.slice none 0 0) [] (fun _=>False) wa:=Ms.LOwn.nil _ _ _ _
   have hba:Below w1.heap.size w1 wa:=by rw [hwa];exact bN _ _
   have hsa:wa.heap.size=w1.heap.size+1:=by rw [hwa,World.size_alloc]
   have HONE:=Lib.hid hone
   have HNIL:=Lib.hid hnil
   have HBA:=Lib.hid hba
   have HSA:=Lib.hid hsa
   have HHL:=Lib.hid hl
   have cb1:w1.cell? ⟨lb,0,none⟩=some (.slice none 0 0):=HBOX.out.cell 0
   clear hi hone hnil hba hsa hl
   go_upto_region 3 with (fail)
   go_wp2_with (rw [← hwa];at_builtin;refine wpList_append_lrows rfl (.tmp 8) (.tmp 9) rfl rfl rfl HNIL.out HONE.out (by decide) (fun _ h=>h.elim) (fun b hb=>by have:=HSA.out;rcases hb with hb|hb|hb;exact hb.elim;exact hb.elim;omega) (by decide) ?_;intro v2 w2 ho2 hg2 hal hlt2;obtain ⟨A2,c2,hv2,hc2,_,_⟩:=Ms.LOwn.rd ho2 (fun _ _ h=>h.elim);replace hv2:v2=.slice A2 1 c2:=hv2;subst hv2;have HBX2:Hid (Blk w2 lb 27 [.slice none 0 0]):=(HBOX.out.below HBA.out HBOX.out.lt).grown hg2 (fun e=>nomatch (show some lb=none from e));have HIX2:Hid (Blk w2 w.heap.size 3 [.int .i64 i]):=(HIDB.out.below HBA.out HIDB.out.lt).grown hg2 (fun e=>nomatch (show some w.heap.size=none from e));have HO2:=Lib.hid ho2;have HG2:=Lib.hid hg2;have HAL:=Lib.hid hal;have HLT2:=Lib.hid hlt2;clear ho2 hg2 hal hlt2;have cb2:w2.cell? ⟨lb,0,none⟩=some (.slice none 0 0):=HBX2.out.cell 0;have fb2:=HBX2.out.frozen 0)
   go_meet
   case rel =>
    have hs1:=HSA.out
    have hs2:=HG2.out.size
    have hs3:=HSZ.out
    have hl1:=HLB.out
    have hown:∀ b,(Value.slice A2 1 c2).ownBlock=some b→wa.heap.size≤b:=fun b hb=>by
     rcases HAL.out with e|e
     ·rw [e] at hb;cases hb
     ·rw [e] at hb;injection hb with hb;omega
    have hge:∀ b,(((False∨False∨b=w1.heap.size)∨(Value.slice A2 1 c2).ownBlock=some b))→w1.heap.size≤b:=fun b hb=>by
     rcases hb with (hb|hb|hb)|hb
     ·exact hb.elim
     ·exact hb.elim
     ·omega
     ·have:=hown b hb;omega
    refine ⟨_,.slice A2 1 c2,fun b=>(False∨False∨b=w1.heap.size)∨(Value.slice A2 1 c2).ownBlock=some b,_,rfl,rfl,⟨?_,?_,?_,fun h=>?_,fun h=>?_,fun b h=>?_,rfl⟩,fun b hb=>?_,?_⟩
    ·exact (Below.heap_setCell w2 ⟨lb,0,none⟩ _ _ (by show w.heap.size≠lb;omega)).trans HIX2.out
    ·exact HBX2.out.set_ 0 _
    ·rw [HHL.out]
     exact HO2.out.keep (by simp [World.setCell]) fun b hb=>Below.heap_setCell _ _ _ _ (by have:=hge b hb;show b≠lb;omega)
    ·have:=hge _ h;omega
    ·have:=hge _ h;omega
    ·simp only [World.size_setCell]
     rcases h with (h|h|h)|h
     ·exact h.elim
     ·exact h.elim
     ·omega
     ·exact HLT2.out b h
    ·rcases hb with hb|hb|hb
     ·omega
     ·omega
     ·have:=hge b hb;omega
    ·have h1:=HW1.out.trans (HBA.out.mono HW1.out.size)
     have h2:Below w.heap.size w w2:=h1.grown HG2.out (by omega) (fun k hk=>by cases hk)
     exact h2.setCell (p:=⟨lb,0,none⟩) (by show w.heap.size≤lb;omega) _
  ·have hz:(i==0)=false:=by simpa using hi
   have hl:L0=[]:=by rw [HL0.out,if_neg hi]
   have HHL:=Lib.hid hl
   clear hi hl
   go_wp2_with fail
   go_meet
   case rel =>
    refine ⟨_,.slice none 0 0,fun _=>False,_,rfl,rfl,⟨HIDB.out,HBOX.out,?_,fun h=>h,fun h=>h,fun b h=>h.elim,rfl⟩,fun b hb=>?_,HW1.out⟩
    ·rw [HHL.out];exact Ms.LOwn.nil _ _ _ _
    ·have:=HLB.out
     rcases hb with hb|hb|hb
     ·omega
     ·omega
     ·exact hb.elim
 case rest =>
  obtain ⟨WX,v,S',B,hWX,rfl,HN,HBS,HBW⟩:=hcut
  subst hWX
  have HTX:=Lib.hid (HIN.out.below HBW.out)
  obtain ⟨r,rst,htr,hr0,hrk⟩:=HG.out.root
  have hf:Tr.find t 0=some r:=by rw [htr];unfold Tr.find;simp [hr0]
  obtain ⟨g0,S0,hp0,_,_,_⟩:=HTX.out.ptr HG.out hf
  have HFI:=Lib.hid (Tm.find_any HTX.out 0 (by have:=HG.out.few;omega))
  rw [hp0] at HFI
  obtain ⟨dep,_,hd⟩:=HG.out.deep
  have hne:w.heap.size≠lb:=by have:=HLB.out;omega
  have hl0:L0.length≤1:=by rw [HL0.out];split <;> simp
  have hpre:WPre (nEye w.heap.size lb i L0) p av gs S t (.slice none 0 0) [] [] B WX :=
   ⟨HTX.out,SOwn.nil _,⟨v,S',HN.out⟩,fun b hb hT=>by have:=HIN.out.lt hT;have:=HBS.out b hb;omega,fun b hb=>nomatch hb⟩
  have HW:=Lib.hid (Tm.walk_any (nShows w.heap.size lb hne i L0 (Tr.walk t 64 0 []).length (by omega)) HG.out hd 64 0 r g0 (.slice none 0 0) [] [] B WX hf hp0 (fun _=>by omega) (by show 0+64≤_;omega) hpre (by simp))
  clear hpre hd hf hp0 htr hr0 hrk
  go_wp2_with fail
  refine HFI.out.mono ?_
  rintro e w3 ⟨rfl,hw3⟩
  obtain rfl:=hw3.symm
  go_wp2_with fail
  refine HW.out.mono ?_
  rintro e w4 ⟨rfl,B2,hm⟩
  obtain ⟨v2,S2,hn2⟩:=hm.at_
  rw [List.nil_append,HL0.out] at hn2
  have HN2:Hid (NAt w.heap.size lb i (raw t i) v2 S2 B2 w4):=hn2
  have HS2:Hid (∀ b,S2 b→w.heap.size≤b):=fun b hb=>by
   have h1:B2 b:=by rw [hn2.set];exact .inr (.inr hb)
   rcases hm.sub b h1 with h2|h2
   ·exact HBS.out b h2
   ·exact Nat.le_trans HBW.out.size h2
  have HB4:Hid (Below w.heap.size w w4):=HBW.out.trans (mod_below hm.mod (fun k hk=>hk.elim (HBS.out k) fun h1=>nomatch h1) HBW.out.size)
  clear hn2 hm HW HFI HN HTX
  have cb4:w4.cell? ⟨lb,0,none⟩=some v2:=HN2.out.box.cell 0
  obtain ⟨A2,c2,hv2,hc2,_,_⟩:=Ms.LOwn.rd HN2.out.row (fun _ _ h=>h.elim)
  by_cases h0:0<(raw t i).length
  ·have HSRT:=Lib.hid (sort_any HN2.out.row HN2.out.lt hj h0 (by
    have h1:=mine_length i (Tr.walk t 64 0 [])
    unfold raw
    rw [List.length_append,← HL0.out]
    omega))
   subst hv2
   go_wp2_with fail
   refine HSRT.out.mono ?_
   rintro e w5 ⟨rfl,L',hperm,hpw,hown,hmod⟩
   have HX5:Hid (Blk w5 lb 27 [.slice A2 (raw t i).length c2]):=(hmod.block lb HN2.out.box.lt (fun e=>HN2.out.nlb (lown_own HN2.out.row e))).trans HN2.out.box
   have cb5:w5.cell? ⟨lb,0,none⟩=some (.slice A2 (raw t i).length c2):=HX5.out.cell 0
   have HEND:Hid (NAns t i w (.returned (.slice A2 (raw t i).length c2)) w5):=by
    refine ⟨_,L',rfl,hperm,hpw,(lown_up hown HS2.out).mono (Nat.le_refl _) (fun _ _ h=>h) fun b hb=>⟨HS2.out b hb,Nat.lt_of_lt_of_le (HN2.out.lt b hb) hmod.size⟩,HB4.out.trans (mod_below hmod (fun k hk=>HS2.out k (lown_own HN2.out.row hk)) HB4.out.size)⟩
   clear hperm hpw hown hmod HSRT
   go_wp2_with fail
   go_ret
   exact HEND.out
  ·have hz:(raw t i).length=0:=by omega
   have hnil:raw t i=[]:=List.eq_nil_of_length_eq_zero hz
   rw [hz] at hv2
   have HNIL:=Lib.hid hnil
   subst hv2
   clear hz hnil h0 hj
   go_wp2_with fail
   refine (sort_none A2 c2 _ w4).mono ?_
   rintro e w5 ⟨rfl,hw5⟩
   obtain rfl:=hw5.symm
   have HEND:Hid (NAns t i w (.returned (.slice A2 0 c2)) w4):=by
    refine ⟨_,[],rfl,by rw [HNIL.out],List.Pairwise.nil,?_,HB4.out⟩
    have:=HN2.out.row
    rw [HNIL.out] at this
    exact (lown_up this HS2.out).mono (Nat.le_refl _) (fun _ _ h=>h) fun b hb=>⟨HS2.out b hb,HN2.out.lt b hb⟩
   go_wp2_with fail
   go_ret
   exact HEND.out
end Gt
end Go.Proofs.YtjoedamiilgajaaGreat
