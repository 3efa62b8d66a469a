/-
  OWN WORK. TsRightP, TsRight
-/
import Derived.Test.YtbnpgakmhhfjkaaGreatDoorOTsLinked
import Derived.Test.YtbnpgakmhhfjkaaGreatDoorO06
import Derived.Test.YtbnpgakmhhfjkaaGreatDoorO02
import Derived.Test.YtbnpgakmhhfjkaaGreatDoorO09
import Derived.Test.YtbnpgakmhhfjkaaGreatDoorO01
namespace Go.Proofs.YtbnpgakmhhfjkaaGreatDoor
open Go.RowKit
namespace Tr
variable {t:T}
def Raw (t:T):Prop:=∀ e ∈ t,e.nd.Right∧e.nd.size=(e.data.length:Nat)∧e.names.length≤65535∧Rise e.names∧∀ m ∈ e.names,Pa.good m.1=true∧∃ k:Nat,m.2=k∧k≤65535
def headB:T→Bool
 | []=>false
 | e :: _=>(e.nd.id==0)&&(e.nd.kind==2)
def UpTo (t:T) (j:Nat):Prop:=∀ i,i+1<j→∀ a b,t[i]?=some a→t[i+1]?=some b→a.nd.id<b.nd.id
theorem UpTo.zero (t:T):UpTo t 0:=fun i h=>by omega
theorem UpTo.one (t:T):UpTo t 1:=fun i h=>by omega
theorem UpTo.next {j:Nat} (h:UpTo t (j+1)) (h1:∀ a b,t[j]?=some a→t[j+1]?=some b→a.nd.id<b.nd.id):UpTo t (j+2):=fun i hi a b ha hb=>by
 by_cases hij:i=j
 ·subst hij;exact h1 a b ha hb
 ·exact h i (by omega) a b ha hb
theorem UpTo.far (h:UpTo t t.length):∀ (d i:Nat) (a b:En),t[i]?=some a→t[i+d+1]?=some b→a.nd.id<b.nd.id
 | 0,i,a,b,ha,hb=>by
   obtain ⟨h1,_⟩:=List.getElem?_eq_some_iff.1 hb
   exact h i (by omega) a b ha hb
 | d+1,i,a,b,ha,hb=>by
   obtain ⟨h1,_⟩:=List.getElem?_eq_some_iff.1 hb
   obtain ⟨c,hc⟩:∃ c,t[i+d+1]?=some c:=⟨_,List.getElem?_eq_getElem (by omega)⟩
   have h2:=UpTo.far h d i a c ha hc
   have h3:=h (i+d+1) (by omega) c b hc hb
   omega
theorem UpTo.rise (h:UpTo t t.length):t.Pairwise fun a b=>a.nd.id<b.nd.id:=by
 rw [List.pairwise_iff_getElem]
 intro i j hi hj hij
 exact UpTo.far h (j-i-1) i _ _ (List.getElem?_eq_getElem hi) (by rw [show i+(j-i-1)+1=j by omega];exact List.getElem?_eq_getElem hj)
theorem up_of (h:t.Pairwise fun a b=>a.nd.id<b.nd.id) (j:Nat):UpTo t j:=fun i _ a b ha hb=>by
 obtain ⟨h1,h2⟩:=List.getElem?_eq_some_iff.1 ha
 obtain ⟨h3,h4⟩:=List.getElem?_eq_some_iff.1 hb
 have:=List.pairwise_iff_getElem.1 h i (i+1) h1 h3 (by omega)
 rw [h2,h4] at this
 exact this
theorem fT_all (t:T) (x:Int):Tm.fT t [] x=((Tr.count t x:Nat):Int)+(if x=0 then 1 else 0):=by
 unfold Tm.fT Tm.upN
 simp
 omega
theorem half_of (hr:Raw t) (h64:t.length≤64) (hh:headB t=true) (hu:UpTo t t.length) (hl:t.all (Tm.leadsB t)=true) (hk:t.all (Tm.linkB t)=true):Half t:=by
 have hL:∀ e ∈ t,Tm.leadsB t e=true:=List.all_eq_true.1 hl
 have hK:∀ e ∈ t,Tm.linkB t e=true:=List.all_eq_true.1 hk
 have hfile:∀ e ∈ t,e.nd.kind=1→e.names=[]:=fun e he h1=>by
  have:=hL e he
  unfold Tm.leadsB at this
  rw [if_pos h1] at this
  exact List.isEmpty_iff.1 this
 refine ⟨?_,hu.rise,h64,fun e he=>?_,fun e he n hn=>?_,fun e he=>?_,fun e he h2=>?_,fun e he h2=>?_⟩
 ·cases t with
  | nil=>cases hh
  | cons r rest =>
    unfold headB at hh
    simp only [Bool.and_eq_true,beq_iff_eq] at hh
    exact ⟨r,rest,rfl,hh.1,hh.2⟩
 ·obtain ⟨h1,h2,_,h4,h5⟩:=hr e he
  exact ⟨h1,h2,h4,fun n hn=>(h5 n hn).1,hfile e he⟩
 ·have h1:=hL e he
  unfold Tm.leadsB at h1
  by_cases hk1:e.nd.kind=1
  ·rw [hfile e he hk1] at hn;cases hn
  ·rw [if_neg hk1] at h1
   have h2:=List.all_eq_true.1 h1 n hn
   unfold Tm.nameB at h2
   simp only [Bool.and_eq_true,Bool.not_eq_true',beq_eq_false_iff_ne] at h2
   exact ⟨h2.1,h2.2⟩
 ·have h1:=hK e he
  unfold Tm.linkB at h1
  simp only [Bool.and_eq_true,beq_iff_eq] at h1
  rw [← h1.1,fT_all]
 ·have h1:=hK e he
  unfold Tm.linkB at h1
  simp only [Bool.and_eq_true,beq_iff_eq,Bool.not_eq_true',Bool.or_eq_false_iff,h2] at h1
  simpa using h1.2.1
 ·have h1:=hK e he
  unfold Tm.linkB at h1
  simp only [Bool.and_eq_true,beq_iff_eq,Bool.not_eq_true',Bool.or_eq_false_iff,h2] at h1
  simpa using h1.2.2
theorem Good.head (h:Good t):headB t=true:=by
 obtain ⟨r,rest,rfl,h1,h2⟩:=h.root
 unfold headB
 simp [h1,h2]
theorem Good.lead (h:Good t):t.all (Tm.leadsB t)=true:=List.all_eq_true.2 fun e he=>by
 unfold Tm.leadsB
 split
 ·rename_i h1
  rw [(h.each e he).file h1];rfl
 ·refine List.all_eq_true.2 fun n hn=>?_
  obtain ⟨h1,h2⟩:=h.leads e he n hn
  unfold Tm.nameB
  simp [h1,h2]
theorem Good.link_ (h:Good t):t.all (Tm.linkB t)=true:=List.all_eq_true.2 fun e he=>by
 have h1:=h.linked e he
 have h2:=h.dirs e he
 have h3:=h.shut e he
 unfold Tm.linkB
 rw [fT_all,h1]
 simp only [beq_self_eq_true,Bool.true_and,Bool.not_eq_true',Bool.or_eq_false_iff,Bool.and_eq_false_iff,Bool.not_eq_false',beq_iff_eq,beq_eq_false_iff_ne]
 refine ⟨?_,?_⟩
 ·by_cases hk:e.nd.kind=2
  ·exact .inr (h2 hk)
  ·exact .inl hk
 ·by_cases hs:e.nd.shut=true
  ·exact .inr (h3 hs)
  ·exact .inl (by simpa using hs)
/-! Many nodes, one behind the other. -/
theorem ldEns_add:∀ (j k:Nat) (s:Co.Rs),ldEns (j+k) s=(ldEns j s).bind fun r=>(ldEns k r.2).map fun q=>(r.1++q.1,q.2)
 | 0,k,s=>by
   rw [Nat.zero_add]
   show _=(ldEns k s).map fun q=>([]++q.1,q.2)
   cases ldEns k s <;> rfl
 | j+1,k,s=>by
   rw [show j+1+k=(j+k)+1 by omega]
   show (ldEn s).bind (fun r=>(ldEns (j+k) r.2).map fun q=>(r.1 :: q.1,q.2))=((ldEn s).bind fun r=>(ldEns j r.2).map fun q=>(r.1 :: q.1,q.2)).bind _
   cases hE:ldEn s with
   | none=>rfl
   | some r =>
     show (ldEns (j+k) r.2).map _=((ldEns j r.2).map _).bind _
     rw [ldEns_add j k r.2]
     cases ldEns j r.2 with
     | none=>rfl
     | some q =>
       show ((ldEns k q.2).map _).map _=(ldEns k q.2).map _
       cases ldEns k q.2 <;> rfl
theorem ldEns_succ (n:Nat) (s:Co.Rs):ldEns (n+1) s=(ldEn s).bind fun r=>(ldEns n r.2).map fun q=>(r.1 :: q.1,q.2):=rfl
theorem ldEns_zero (s:Co.Rs):ldEns 0 s=some ([],s):=rfl
theorem ldEns_one {j:Nat} {s s1 s2:Co.Rs} {t:T} {e:En} (h:ldEns j s=some (t,s1)) (h1:ldEn s1=some (e,s2)):ldEns (j+1) s=some (t++[e],s2):=by
 rw [ldEns_add,h,Option.bind_some]
 dsimp only
 rw [show (1:Nat)=0+1 from rfl,ldEns_succ,h1,Option.bind_some]
 dsimp only
 rw [ldEns_zero,Option.map_some,Option.map_some]
theorem ldEns_no {j n:Nat} {s s1:Co.Rs} {t:T} (hj:j<n) (h:ldEns j s=some (t,s1)) (h1:ldEn s1=none):ldEns n s=none:=by
 obtain ⟨k,rfl⟩:∃ k,n=j+(k+1):=⟨n-j-1,by omega⟩
 rw [ldEns_add,h,Option.bind_some]
 dsimp only
 rw [ldEns_succ,h1,Option.bind_none,Option.map_none]
theorem save_reads (h:Good t) (hs:Slim t):Co.num 2 ⟨save t,0⟩=(t.length,⟨t.flatMap enBytes,0⟩)∧ldEns t.length ⟨t.flatMap enBytes,0⟩=some (t,⟨[],0⟩):=by
 have hf:=h.few
 constructor
 ·unfold save
  rw [Co.num_short,Nat.mod_eq_of_lt (by omega)]
 ·have:=ldEns_back t [] fun e he=>⟨h.each e he,hs e he,h.ids he⟩
  rw [List.append_nil] at this
  exact this
theorem fin_zero {s:Co.Rs} (h:Co.fin s=0):s.why=0∧s.rem=[]:=by
 unfold Co.fin at h
 by_cases h0:s.why=0
 ·rw [if_neg (by simpa using h0)] at h
  refine ⟨h0,?_⟩
  cases hr:s.rem with
  | nil=>rfl
  | cons a r=>rw [hr,if_pos (by simp)] at h;cases h
 ·rw [if_pos h0] at h
  exact absurd h h0
theorem reads_save {n:Nat} {b:Bs} {s s':Co.Rs} (hn:Co.num 2 ⟨b,0⟩=(n,s)) (hl:ldEns n s=some (t,s')) (hf:Co.fin s'=0):save t=b∧Slim t∧Raw t∧t.length=n:=by
 obtain ⟨f1,f2⟩:=fin_zero hf
 obtain ⟨h1,h2,h3,h4⟩:=ldEns_inv n s t s' hl f1
 obtain ⟨k1,k2,k3⟩:=Co.short_inv ⟨b,0⟩ (by rw [hn];exact h1)
 rw [hn] at k2 k3
 refine ⟨?_,fun e he=>(h4 e he).2.2.1,h4,h2⟩
 unfold save
 rw [h2]
 have k4:b=Co.wShort n++s.rem:=k3
 rw [k4,h3,f2,List.append_nil]
end Tr
end Go.Proofs.YtbnpgakmhhfjkaaGreatDoor
namespace Go.Proofs.YtbnpgakmhhfjkaaGreatDoor
open Go.RowKit Rc
open Tr (Nm En T)
namespace Tm
variable {p:Nat} {av:Value} {gs:List Nat} {S:Nat→Prop} {t:T} {w:World}
def RightOut (t:T) (w:World) (r:Ending) (w':World):Prop:=∃ b,r=.returned (.bool b)∧(b=true↔Tr.Good t)∧Below w.heap.size w w'
theorem RightOut.no {w':World} (h:¬ Tr.Good t) (hb:Below w.heap.size w w'):RightOut t w (.returned (.bool false)) w':=⟨false,rfl,⟨fun h=>(Bool.false_ne_true h).elim,fun h9=>(h h9).elim⟩,hb⟩
set_option maxHeartbeats 2000000 in
set_option maxRecDepth 100000 in
theorem right_to {Q:Ending→World→Prop} (HQ:Hid (∀ r w',RightOut t w r w'→Q r w')) (h:TIn p av gs S t w) (hr:Tr.Raw t) (h64:t.length≤64):Calls Tryz.prog 121 #[.pointer (some ⟨p,0,none⟩)] w Q:=by
 have c0:w.cell? ⟨p,0,none⟩=some av:=h.box.cell 0
 have hl:=h.each.len
 obtain ⟨A,c,hav,hc,hA⟩:=own_form h.row
 have HT:=Lib.hid h
 have HL:=Lib.hid hl
 have hg9:gs.length≤64:=by omega
 have HRW:=Lib.hid hr
 cases t with
 | nil =>
   have h0:gs.length=0:=by rw [hl];rfl
   subst hav
   rw [h0] at c0
   have HN:Hid (¬ Tr.Good ([]:T)):=fun hG=>by
    obtain ⟨r,rest,h1,_⟩:=hG.root
    cases h1
   clear h hl hA hc hr h64 h0 hg9
   go_enter Tryz.func121,Tryz.ntmps121
   go_wp2_with fail
   first|exact HQ.out _ _ (.no HN.out (Below.refl _ _))|(go_ret;exact HQ.out _ _ (.no HN.out (Below.refl _ _)))
 | cons e0 rest =>
   have hpos:0<gs.length:=by rw [hl];simp
   have HPOS:Hid (0<gs.length):=hpos
   obtain ⟨q,rfl,_,_,hq,hcell⟩:=hA hpos
   subst hav
   obtain ⟨g0,S0,hg0,hE0,_⟩:=h.each.get (j:=0) (e:=e0) rfl
   have c1:w.cell? ⟨q,0,none⟩=some (.pointer (some ⟨g0,0,none⟩)):=hcell 0 _ (by simp [ptrCells,hg0])
   obtain ⟨f0,f1,_⟩:=hE0.cells
   have HC:=Lib.hid hcell
   have hz:((gs.length:Int)==0)=false:=by rw [beq_eq_false_iff_ne];omega
   have hplt:(0:Int)<(gs.length:Int):=by omega
   clear h hl hA hc hr h64 hcell hg0 hE0
   by_cases hid:e0.nd.id=0
   ·by_cases hkd:e0.nd.kind=2
    ·rw [hid] at f0
     rw [hkd] at f1
     have HHEAD:Hid (Tr.headB (e0 :: rest)=true):=by
      show _=_
      unfold Tr.headB
      simp [hid,hkd]
     clear hid hkd
     obtain ⟨t,ht⟩:∃ t,t=e0 :: rest:=⟨_,rfl⟩
     rw [← ht] at HQ HT HL HRW HHEAD
     go_enter Tryz.func121,Tryz.ntmps121
     go_wp2_with fail
     clear c1 f0 f1 hz hplt
     go_loopw [3,4,42] (fun t3 t4 t42 wr=>∃ (j:Nat) (v3 v4:Value),t3=v3∧t4=v4∧t42=.int .i64 j∧j≤gs.length∧Hid (Tr.UpTo t j)∧Hid ((t.take j).all (leadsB t)=true)∧Hid (Below w.heap.size w wr)) (fun _ _ t42 _=>gs.length-(match t42 with|.int _ k=>k.toNat|_=>0))
     case atStart=>exact ⟨0,_,_,rfl,rfl,rfl,Nat.zero_le _,Tr.UpTo.zero t,rfl,Below.refl _ _⟩
     case round =>
      obtain ⟨j,v3,v4,rfl,rfl,rfl,hj,HUT,HLA,HB⟩:=hrel
      by_cases hk:j<gs.length
      ·obtain ⟨e,he⟩:∃ e,t[j]?=some e:=⟨_,List.getElem?_eq_getElem (by rw [← HL.out];exact hk)⟩
       obtain ⟨g,S1,hg,hE,hS1⟩:=HT.out.each.get he
       have c1:wr.cell? ⟨q,j,none⟩=some (.pointer (some ⟨g,0,none⟩)):=(cell_same (HB.out.block q hq)).trans (HC.out j _ (by simp [ptrCells,hg]))
       have hmem:e ∈ t:=List.mem_of_getElem? he
       have hlt2:(j:Int)<(gs.length:Int):=by omega
       have HLD:Hid (∀ W,Below wr.heap.size wr W→Calls Tryz.prog 159 #[.pointer (some ⟨p,0,none⟩),.pointer (some ⟨g,0,none⟩)] W fun r w'=>r=.returned (.bool (leadsB t e))∧Below W.heap.size W w'):=fun W hW=>leads_any (HT.out.below (HB.out.trans (hW.mono HB.out.size))) (by have:=HL.out;omega) (hE.keep fun b hb=>(HB.out.trans (hW.mono HB.out.size)).block b (HT.out.lt (.inr (.inr (hS1 b hb))))) hS1 (by have:=(HRW.out e hmem).2.2.1;omega)
       have HE0:Hid (t[j]?=some e):=he
       have HBD:Hid (Below w.heap.size w wr.drew):=undrew_r HB.out
       have hsz:wr.drew.heap.size=wr.heap.size:=rfl
       rcases Nat.eq_zero_or_pos j with h0|h0
       ·subst h0
        have HCS:Hid (∀ W,Below w.heap.size w W→W.cell? ⟨p,0,none⟩=some (.slice (some ⟨q,0,none⟩) gs.length c)):=fun W hW=>(HT.out.below hW).box.cell 0
        have HNX:leadsB t e=true→Hid (Tr.UpTo t (0+1))∧Hid ((t.take (0+1)).all (leadsB t)=true):=fun h9=>⟨Tr.UpTo.one t,by show _=_;rw [take_next HE0.out];simp [h9]⟩
        have HNO:leadsB t e=false→Hid (¬ Tr.Good t):=fun h9 hG=>by
         have:=List.all_eq_true.1 hG.lead e (List.mem_of_getElem? HE0.out)
         rw [h9] at this;cases this
        obtain ⟨lb,hlb⟩:∃ lb,lb=leadsB t e:=⟨_,rfl⟩
        rw [← hlb] at HLD HNX HNO
        clear hlb he hg hE hS1 hmem
        go_upto_region 6 with (fail)
        clear c1
        refine Rg.wp_region_facts (by kernel_rfl) (fun opn=>List.getD [Rg.val (.int .i64 0),Rg.val (.bool false),Rg.val (.bool false),Rg.val (undef),Rg.val (undef),Rg.val (undef),Rg.val (undef),Rg.val (undef),Rg.val (undef),Rg.val (undef),Rg.val (undef),Rg.val (undef),Rg.val (undef),Rg.val (undef),Rg.val (undef),Rg.val (undef),Rg.val (undef),Rg.val (undef),Rg.val (undef),Rg.val (undef),Rg.val (undef),Rg.val (.bool false),Rg.val (.bool false),Rg.val (.pointer (some ⟨p,0,none⟩)),Rg.val (.pointer (some ⟨g,0,none⟩)),Rg.val (.bool lb),Rg.val (.bool (!lb)),Rg.val (.bool (!lb))] opn Rg.any) [] [[],[(0,47)],[(1,48)],[(2,49)],[(2,49),(3,50)],[(2,49),(4,51)],[(2,49),(5,52)],[(2,49),(6,53)],[(2,49)],[(2,49),(8,55)],[(2,49),(9,56)],[(2,49),(10,57)],[(2,49)],[(2,49),(12,59)],[(2,49),(11,58),(13,60)],[(2,49),(14,61)],[(2,49),(15,62)],[(2,49),(16,63)],[(2,49),(17,64)],[(2,49),(18,65)],[(2,49),(7,54),(19,66)],[(2,49),(20,67)],[(21,68)],[(22,69)],[(22,69)],[(22,69),(23,70),(24,71)],[(22,69),(25,72)],[(22,69),(26,73)]] [] (by kernel_rfl) (by rfl) (by kernel_rfl) ?_ ?_
        ·intro fr ha
         have hz:fr.tmps.size=82:=by rw [ha];rfl
         have y0:fr.eval (.tmp 0)=.pointer (some ⟨p,0,none⟩):=by rw [ha];rfl
         have y3:fr.eval (.tmp 3)=.int .i64 0:=by rw [ha];rfl
         have y4:fr.eval (.tmp 4)=.pointer (some ⟨g,0,none⟩):=by rw [ha];rfl
         clear ha
         refine .cons ?_ (.cons ?_ (.cons ?_ (.cons ?_ (.cons ?_ (.cons ?_ (.cons ?_ (.cons ?_ (.cons ?_ (.cons ?_ (.cons ?_ (.cons ?_ (.cons ?_ (.cons ?_ (.cons ?_ (.cons ?_ (.cons ?_ (.cons ?_ (.cons ?_ (.cons ?_ (.cons ?_ (.cons ?_ (.cons ?_ (.cons ?_ (.cons ?_ (.cons ?_ (.cons ?_ (.cons ?_ (.nil))))))))))))))))))))))))))))
         ·intro V w2 HL HH
          have tb3:=(Rg.use_eval V fr 3 [] (by rw [hz];decide)).trans y3
          show Rg.Does1 _ _ V (Rg.putUse V [] fr) w2 _
          exact step_mv (.int .i64 0) (by simp only [execOp,tb3];go_simp) rfl rfl rfl True.intro
         ·intro V w2 HL HH
          have h0:V 0=_:=HH.1
          have tb47:=(Rg.use_eval V fr 47 [(0,47)] (by rw [hz];decide)).trans h0
          show Rg.Does1 _ _ V (Rg.putUse V [(0,47)] fr) w2 _
          exact step_mv (.bool false) (by simp only [execOp,tb47];go_simp) rfl rfl rfl True.intro
         ·intro V w2 HL HH
          have h1:V 1=_:=HH.1
          have tb48:=(Rg.use_eval V fr 48 [(1,48)] (by rw [hz];decide)).trans h1
          show Rg.Does1 _ _ V (Rg.putUse V [(1,48)] fr) w2 _
          exact step_mv (.bool false) (by simp only [execOp,tb48];go_simp) rfl rfl rfl True.intro
         ·intro V w2 HL HH
          have h2:V 2=_:=HH.1
          exact Rg.step_not rfl h2 (Rg.alias_none rfl _ _) rfl rfl rfl
         ·intro V w2 HL HH
          have h2:V 2=_:=HH.1
          have h3:V 3=_:=HH.2.1
          exact Rg.step_not rfl h2 (Rg.alias_none rfl _ _) rfl rfl rfl
         ·intro V w2 HL HH
          have h2:V 2=_:=HH.1
          have h4:V 4=_:=HH.2.1
          exact Rg.step_not rfl h2 (Rg.alias_none rfl _ _) rfl rfl rfl
         ·intro V w2 HL HH
          have h2:V 2=_:=HH.1
          have h5:V 5=_:=HH.2.1
          exact Rg.step_not rfl h2 (Rg.alias_none rfl _ _) rfl rfl rfl
         ·intro V w2 HL HH
          have h2:V 2=_:=HH.1
          have h6:V 6=_:=HH.2.1
          exact Rg.step_not rfl h2 (Rg.alias_none rfl _ _) rfl rfl rfl
         ·intro V w2 HL HH
          have h2:V 2=_:=HH.1
          exact Rg.step_not rfl h2 (Rg.alias_none rfl _ _) rfl rfl rfl
         ·intro V w2 HL HH
          have h2:V 2=_:=HH.1
          have h8:V 8=_:=HH.2.1
          exact Rg.step_not rfl h2 (Rg.alias_none rfl _ _) rfl rfl rfl
         ·intro V w2 HL HH
          have h2:V 2=_:=HH.1
          have h9:V 9=_:=HH.2.1
          exact Rg.step_not rfl h2 (Rg.alias_none rfl _ _) rfl rfl rfl
         ·intro V w2 HL HH
          have h2:V 2=_:=HH.1
          have h10:V 10=_:=HH.2.1
          exact Rg.step_not rfl h2 (Rg.alias_none rfl _ _) rfl rfl rfl
         ·intro V w2 HL HH
          have h2:V 2=_:=HH.1
          exact Rg.step_not rfl h2 (Rg.alias_none rfl _ _) rfl rfl rfl
         ·intro V w2 HL HH
          have h2:V 2=_:=HH.1
          have h12:V 12=_:=HH.2.1
          exact Rg.step_not rfl h2 (Rg.alias_none rfl _ _) rfl rfl rfl
         ·intro V w2 HL HH
          have h2:V 2=_:=HH.1
          have h11:V 11=_:=HH.2.1
          have h13:V 13=_:=HH.2.2.1
          exact Rg.step_not rfl h2 (Rg.alias_none rfl _ _) rfl rfl rfl
         ·intro V w2 HL HH
          have h2:V 2=_:=HH.1
          have h14:V 14=_:=HH.2.1
          exact Rg.step_not rfl h2 (Rg.alias_none rfl _ _) rfl rfl rfl
         ·intro V w2 HL HH
          have h2:V 2=_:=HH.1
          have h15:V 15=_:=HH.2.1
          exact Rg.step_not rfl h2 (Rg.alias_none rfl _ _) rfl rfl rfl
         ·intro V w2 HL HH
          have h2:V 2=_:=HH.1
          have h16:V 16=_:=HH.2.1
          exact Rg.step_not rfl h2 (Rg.alias_none rfl _ _) rfl rfl rfl
         ·intro V w2 HL HH
          have h2:V 2=_:=HH.1
          have h17:V 17=_:=HH.2.1
          exact Rg.step_not rfl h2 (Rg.alias_none rfl _ _) rfl rfl rfl
         ·intro V w2 HL HH
          have h2:V 2=_:=HH.1
          have h18:V 18=_:=HH.2.1
          exact Rg.step_not rfl h2 (Rg.alias_none rfl _ _) rfl rfl rfl
         ·intro V w2 HL HH
          have h2:V 2=_:=HH.1
          have h7:V 7=_:=HH.2.1
          have h19:V 19=_:=HH.2.2.1
          exact Rg.step_not rfl h2 (Rg.alias_none rfl _ _) rfl rfl rfl
         ·intro V w2 HL HH
          have h2:V 2=_:=HH.1
          have h20:V 20=_:=HH.2.1
          have tb49:=(Rg.use_eval V fr 49 [(2,49),(20,67)] (by rw [hz];decide)).trans h2
          have tb67:=(Rg.use_eval V fr 67 [(2,49),(20,67)] (by rw [hz];decide)).trans h20
          show Rg.Does1 _ _ V (Rg.putUse V [(2,49),(20,67)] fr) w2 _
          exact step_mv (.bool false) (by simp only [execOp,tb49,tb67];go_simp) rfl rfl rfl True.intro
         ·intro V w2 HL HH
          have h21:V 21=_:=HH.1
          have tb68:=(Rg.use_eval V fr 68 [(21,68)] (by rw [hz];decide)).trans h21
          show Rg.Does1 _ _ V (Rg.putUse V [(21,68)] fr) w2 _
          exact step_mv (.bool false) (by simp only [execOp,tb68];go_simp) rfl rfl rfl True.intro
         ·intro V w2 HL HH
          have h22:V 22=_:=HH.1
          have tb0:=(Rg.use_eval V fr 0 [(22,69)] (by rw [hz];decide)).trans y0
          show Rg.Does1 _ _ V (Rg.putUse V [(22,69)] fr) w2 _
          exact step_mv (.pointer (some ⟨p,0,none⟩)) (by simp only [execOp,tb0];go_simp) rfl rfl rfl h22
         ·intro V w2 HL HH
          have h22:V 22=_:=HH.1
          have tb4:=(Rg.use_eval V fr 4 [(22,69)] (by rw [hz];decide)).trans y4
          show Rg.Does1 _ _ V (Rg.putUse V [(22,69)] fr) w2 _
          exact step_mv (.pointer (some ⟨g,0,none⟩)) (by simp only [execOp,tb4];go_simp) rfl rfl rfl h22
         ·intro V w2 HL HH
          have HL:Later wr w2:=HL
          have h22:V 22=_:=HH.1
          have h23:V 23=_:=HH.2.1
          have h24:V 24=_:=HH.2.2.1
          have tb70:=(Rg.use_eval V fr 70 [(22,69),(23,70),(24,71)] (by rw [hz];decide)).trans h23
          have tb71:=(Rg.use_eval V fr 71 [(22,69),(23,70),(24,71)] (by rw [hz];decide)).trans h24
          show Rg.Does1 _ _ V (Rg.putUse V [(22,69),(23,70),(24,71)] fr) w2 _
          exact step_num #[.pointer (some ⟨p,0,none⟩),.pointer (some ⟨g,0,none⟩)] (.bool lb) (fun args w=>Rg.call_enter Tryz.func159 (by kernel_rfl) (by kernel_rfl) args w) rfl (by simp only [List.map_toArray,List.map_cons,List.map_nil,tb70,tb71]) rfl rfl rfl h22 (HLD.out w2 HL)
         ·intro V w2 HL HH
          have h22:V 22=_:=HH.1
          have h25:V 25=_:=HH.2.1
          have tb72:=(Rg.use_eval V fr 72 [(22,69),(25,72)] (by rw [hz];decide)).trans h25
          show Rg.Does1 _ _ V (Rg.putUse V [(22,69),(25,72)] fr) w2 _
          exact step_mv (.bool (!lb)) (by simp only [execOp,tb72];go_simp) rfl rfl rfl h22
         ·intro V w2 HL HH
          have h22:V 22=_:=HH.1
          have h26:V 26=_:=HH.2.1
          have tb69:=(Rg.use_eval V fr 69 [(22,69),(26,73)] (by rw [hz];decide)).trans h22
          have tb73:=(Rg.use_eval V fr 73 [(22,69),(26,73)] (by rw [hz];decide)).trans h26
          show Rg.Does1 _ _ V (Rg.putUse V [(22,69),(26,73)] fr) w2 _
          exact step_mv (.bool (!lb)) (by simp only [execOp,tb69,tb73];go_simp) rfl rfl rfl True.intro
        ·intro V w2 HI
         have v27:V 27=.bool (!lb):=HI.get 27 (by decide) (by rfl)
         have hlt:=later_drew HI.later
         have HB2:Hid (Below w.heap.size w w2):=HB.out.trans (hlt.mono HB.out.size)
         clear HI hlt
         simp only [Rg.putList,Act.put,List.setIfInBounds_toArray,List.set_cons_zero,List.set_cons_succ,Nat.zero_add,Nat.reduceAdd]
         rw [v27]
         clear v27
         cases lb
         ·have HN:=HNO rfl
          simp only [Bool.not_false]
          go_wp2_with fail
          first|exact HQ.out _ _ (.no HN.out HB2.out)|(go_ret;exact HQ.out _ _ (.no HN.out HB2.out))
         ·obtain ⟨HN1,HN2⟩:=HNX rfl
          simp only [Bool.not_true]
          go_wp2_with fail
          go_roundw
          case rel=>exact ⟨1,_,_,rfl,rfl,by go_num,by omega,HN1.out,HN2.out,HB2.out⟩
          case measure=>simp;omega
       ·obtain ⟨i,rfl⟩:∃ i,j=i+1:=⟨j-1,by omega⟩
        obtain ⟨ep,hep⟩:∃ ep,t[i]?=some ep:=⟨_,List.getElem?_eq_getElem (by rw [← HL.out];omega)⟩
        obtain ⟨gp,Sp,hgp,hEp,hSp⟩:=HT.out.each.get hep
        have HCS:Hid (∀ W,Below w.heap.size w W→W.cell? ⟨p,0,none⟩=some (.slice (some ⟨q,0,none⟩) gs.length c)∧W.cell? ⟨q,i,none⟩=some (.pointer (some ⟨gp,0,none⟩))∧W.cell? ⟨gp,0,none⟩=some (.int .i64 ep.nd.id)∧W.cell? ⟨g,0,none⟩=some (.int .i64 e.nd.id)):=fun W hW =>
         ⟨(HT.out.below hW).box.cell 0,(cell_same (hW.block q hq)).trans (HC.out i _ (by simp [ptrCells,hgp])),(hEp.keep fun b hb=>hW.block b (HT.out.lt (.inr (.inr (hSp b hb))))).cells.1,(hE.keep fun b hb=>hW.block b (HT.out.lt (.inr (.inr (hS1 b hb))))).cells.1⟩
        have HNX:ep.nd.id<e.nd.id→leadsB t e=true→Hid (Tr.UpTo t (i+2))∧Hid ((t.take (i+2)).all (leadsB t)=true):=fun h8 h9=>⟨HUT.out.next fun a b ha hb=>by
         rw [hep] at ha
         rw [HE0.out] at hb
         injection ha with ha
         injection hb with hb
         rw [← ha,← hb];exact h8,by
          show _=_
          rw [take_next HE0.out,List.all_append,HLA.out]
          simp [h9]⟩
        have HNO:(ep.nd.id<e.nd.id∧leadsB t e=true→False)→Hid (¬ Tr.Good t):=fun h9 hG=>h9 ⟨Tr.up_of hG.rise (i+2) i (by omega) ep e hep HE0.out,List.all_eq_true.1 hG.lead e hmem⟩
        obtain ⟨lb,hlb⟩:∃ lb,lb=leadsB t e:=⟨_,rfl⟩
        rw [← hlb] at HLD HNX HNO
        obtain ⟨ia,hia⟩:∃ ia,ia=ep.nd.id:=⟨_,rfl⟩
        obtain ⟨ib,hib⟩:∃ ib,ib=e.nd.id:=⟨_,rfl⟩
        rw [← hia,← hib] at HCS HNX HNO
        have hgt:(0:Int)<(i:Int)+1:=by omega
        have hin:(i:Int)<(gs.length:Int):=by omega
        clear hlb he hg hE hS1 hmem hep hgp hEp hSp hia hib
        by_cases hup:ia<ib
        ·have hle:¬ ib≤ia:=by omega
         have HNX2:=HNX hup
         have HNO2:lb=false→Hid (¬ Tr.Good t):=fun h9=>HNO fun h8=>by rw [h9] at h8;cases h8.2
         clear hup HNX HNO
         go_upto_region 6 with (fail)
         clear c1
         refine Rg.wp_region_facts (by kernel_rfl) (fun opn=>List.getD [Rg.val (.int .i64 ((i:Int)+1)),Rg.val (.bool true),Rg.val (.bool true),Rg.val (.pointer (some ⟨g,0,none⟩)),Rg.val (.pointer (some ⟨g,0,none⟩)),Rg.val (.pointer (some ⟨g,0,none⟩)),Rg.val (.pointer (some ⟨g,0,none⟩)),Rg.val (.int .i64 ib),Rg.val (.pointer (some ⟨p,0,none⟩)),Rg.val (.pointer (some ⟨p,0,none⟩)),Rg.val (.pointer (some ⟨p,0,none⟩)),Rg.val (.slice (some ⟨q,0,none⟩) gs.length c),Rg.val (.int .i64 ((i:Int)+1)),Rg.val (.int .i64 i),Rg.val (.pointer (some ⟨q,i,none⟩)),Rg.val (.pointer (some ⟨gp,0,none⟩)),Rg.val (.pointer (some ⟨gp,0,none⟩)),Rg.val (.pointer (some ⟨gp,0,none⟩)),Rg.val (.pointer (some ⟨gp,0,none⟩)),Rg.val (.int .i64 ia),Rg.val (.bool false),Rg.val (.bool false),Rg.val (.bool false),Rg.val (.pointer (some ⟨p,0,none⟩)),Rg.val (.pointer (some ⟨g,0,none⟩)),Rg.val (.bool lb),Rg.val (.bool (!lb)),Rg.val (.bool (!lb))] opn Rg.any) [] [[],[(0,47)],[(1,48)],[(2,49)],[(2,49),(3,50)],[(2,49),(4,51)],[(2,49),(5,52)],[(2,49),(6,53)],[(2,49)],[(2,49),(8,55)],[(2,49),(9,56)],[(2,49),(10,57)],[(2,49)],[(2,49),(12,59)],[(2,49),(11,58),(13,60)],[(2,49),(14,61)],[(2,49),(15,62)],[(2,49),(16,63)],[(2,49),(17,64)],[(2,49),(18,65)],[(2,49),(7,54),(19,66)],[(2,49),(20,67)],[(21,68)],[(22,69)],[(22,69)],[(22,69),(23,70),(24,71)],[(22,69),(25,72)],[(22,69),(26,73)]] [] (by kernel_rfl) (by rfl) (by kernel_rfl) ?_ ?_
         ·intro fr ha
          have hz:fr.tmps.size=82:=by rw [ha];rfl
          have y0:fr.eval (.tmp 0)=.pointer (some ⟨p,0,none⟩):=by rw [ha];rfl
          have y3:fr.eval (.tmp 3)=.int .i64 ((i:Int)+1):=by rw [ha];rfl
          have y4:fr.eval (.tmp 4)=.pointer (some ⟨g,0,none⟩):=by rw [ha];rfl
          clear ha
          refine .cons ?_ (.cons ?_ (.cons ?_ (.cons ?_ (.cons ?_ (.cons ?_ (.cons ?_ (.cons ?_ (.cons ?_ (.cons ?_ (.cons ?_ (.cons ?_ (.cons ?_ (.cons ?_ (.cons ?_ (.cons ?_ (.cons ?_ (.cons ?_ (.cons ?_ (.cons ?_ (.cons ?_ (.cons ?_ (.cons ?_ (.cons ?_ (.cons ?_ (.cons ?_ (.cons ?_ (.cons ?_ (.nil))))))))))))))))))))))))))))
          ·intro V w2 HL HH
           have tb3:=(Rg.use_eval V fr 3 [] (by rw [hz];decide)).trans y3
           show Rg.Does1 _ _ V (Rg.putUse V [] fr) w2 _
           exact step_mv (.int .i64 ((i:Int)+1)) (by simp only [execOp,tb3];go_simp) rfl rfl rfl True.intro
          ·intro V w2 HL HH
           have h0:V 0=_:=HH.1
           have tb47:=(Rg.use_eval V fr 47 [(0,47)] (by rw [hz];decide)).trans h0
           show Rg.Does1 _ _ V (Rg.putUse V [(0,47)] fr) w2 _
           exact step_mv (.bool true) (by simp only [execOp,tb47];go_simp) rfl rfl rfl True.intro
          ·intro V w2 HL HH
           have h1:V 1=_:=HH.1
           have tb48:=(Rg.use_eval V fr 48 [(1,48)] (by rw [hz];decide)).trans h1
           show Rg.Does1 _ _ V (Rg.putUse V [(1,48)] fr) w2 _
           exact step_mv (.bool true) (by simp only [execOp,tb48];go_simp) rfl rfl rfl True.intro
          ·intro V w2 HL HH
           have h2:V 2=_:=HH.1
           have tb4:=(Rg.use_eval V fr 4 [(2,49)] (by rw [hz];decide)).trans y4
           show Rg.Does1 _ _ V (Rg.putUse V [(2,49)] fr) w2 _
           exact step_mv (.pointer (some ⟨g,0,none⟩)) (by simp only [execOp,tb4];go_simp) rfl rfl rfl h2
          ·intro V w2 HL HH
           have h2:V 2=_:=HH.1
           have h3:V 3=_:=HH.2.1
           have tb50:=(Rg.use_eval V fr 50 [(2,49),(3,50)] (by rw [hz];decide)).trans h3
           show Rg.Does1 _ _ V (Rg.putUse V [(2,49),(3,50)] fr) w2 _
           exact step_mv (.pointer (some ⟨g,0,none⟩)) (by simp only [execOp,tb50];go_simp) rfl rfl rfl h2
          ·intro V w2 HL HH
           have h2:V 2=_:=HH.1
           have h4:V 4=_:=HH.2.1
           have tb51:=(Rg.use_eval V fr 51 [(2,49),(4,51)] (by rw [hz];decide)).trans h4
           show Rg.Does1 _ _ V (Rg.putUse V [(2,49),(4,51)] fr) w2 _
           exact step_mv (.pointer (some ⟨g,0,none⟩)) (by simp only [execOp,tb51];go_simp) rfl rfl rfl h2
          ·intro V w2 HL HH
           have h2:V 2=_:=HH.1
           have h5:V 5=_:=HH.2.1
           have tb52:=(Rg.use_eval V fr 52 [(2,49),(5,52)] (by rw [hz];decide)).trans h5
           show Rg.Does1 _ _ V (Rg.putUse V [(2,49),(5,52)] fr) w2 _
           exact step_mv (.pointer (some ⟨g,0,none⟩)) (by simp only [execOp,tb52];go_simp) rfl rfl rfl h2
          ·intro V w2 HL HH
           have HL:Later wr w2:=HL
           have h2:V 2=_:=HH.1
           have h6:V 6=_:=HH.2.1
           have tb53:=(Rg.use_eval V fr 53 [(2,49),(6,53)] (by rw [hz];decide)).trans h6
           show Rg.Does1 _ _ V (Rg.putUse V [(2,49),(6,53)] fr) w2 _
           have cl:=(HCS.out _ (HB.out.trans (HL.mono HB.out.size))).2.2.2
           exact step_mv (.int .i64 ib) (by simp only [execOp,tb53];go_simp) rfl rfl rfl h2
          ·intro V w2 HL HH
           have h2:V 2=_:=HH.1
           have tb0:=(Rg.use_eval V fr 0 [(2,49)] (by rw [hz];decide)).trans y0
           show Rg.Does1 _ _ V (Rg.putUse V [(2,49)] fr) w2 _
           exact step_mv (.pointer (some ⟨p,0,none⟩)) (by simp only [execOp,tb0];go_simp) rfl rfl rfl h2
          ·intro V w2 HL HH
           have h2:V 2=_:=HH.1
           have h8:V 8=_:=HH.2.1
           have tb55:=(Rg.use_eval V fr 55 [(2,49),(8,55)] (by rw [hz];decide)).trans h8
           show Rg.Does1 _ _ V (Rg.putUse V [(2,49),(8,55)] fr) w2 _
           exact step_mv (.pointer (some ⟨p,0,none⟩)) (by simp only [execOp,tb55];go_simp) rfl rfl rfl h2
          ·intro V w2 HL HH
           have h2:V 2=_:=HH.1
           have h9:V 9=_:=HH.2.1
           have tb56:=(Rg.use_eval V fr 56 [(2,49),(9,56)] (by rw [hz];decide)).trans h9
           show Rg.Does1 _ _ V (Rg.putUse V [(2,49),(9,56)] fr) w2 _
           exact step_mv (.pointer (some ⟨p,0,none⟩)) (by simp only [execOp,tb56];go_simp) rfl rfl rfl h2
          ·intro V w2 HL HH
           have HL:Later wr w2:=HL
           have h2:V 2=_:=HH.1
           have h10:V 10=_:=HH.2.1
           have tb57:=(Rg.use_eval V fr 57 [(2,49),(10,57)] (by rw [hz];decide)).trans h10
           show Rg.Does1 _ _ V (Rg.putUse V [(2,49),(10,57)] fr) w2 _
           have cl:=(HCS.out _ (HB.out.trans (HL.mono HB.out.size))).1
           exact step_mv (.slice (some ⟨q,0,none⟩) gs.length c) (by simp only [execOp,tb57];go_simp) rfl rfl rfl h2
          ·intro V w2 HL HH
           have h2:V 2=_:=HH.1
           have tb3:=(Rg.use_eval V fr 3 [(2,49)] (by rw [hz];decide)).trans y3
           show Rg.Does1 _ _ V (Rg.putUse V [(2,49)] fr) w2 _
           exact step_mv (.int .i64 ((i:Int)+1)) (by simp only [execOp,tb3];go_simp) rfl rfl rfl h2
          ·intro V w2 HL HH
           have h2:V 2=_:=HH.1
           have h12:V 12=_:=HH.2.1
           have tb59:=(Rg.use_eval V fr 59 [(2,49),(12,59)] (by rw [hz];decide)).trans h12
           show Rg.Does1 _ _ V (Rg.putUse V [(2,49),(12,59)] fr) w2 _
           have hwr:IntKind.i64.wrap (i:Int)=(i:Int):=IntWalk.i64_in _ (by omega)
           exact step_mv (.int .i64 i) (by simp only [execOp,tb59];go_simp) rfl rfl rfl h2
          ·intro V w2 HL HH
           have h2:V 2=_:=HH.1
           have h11:V 11=_:=HH.2.1
           have h13:V 13=_:=HH.2.2.1
           have tb58:=(Rg.use_eval V fr 58 [(2,49),(11,58),(13,60)] (by rw [hz];decide)).trans h11
           have tb60:=(Rg.use_eval V fr 60 [(2,49),(11,58),(13,60)] (by rw [hz];decide)).trans h13
           show Rg.Does1 _ _ V (Rg.putUse V [(2,49),(11,58),(13,60)] fr) w2 _
           exact step_mv (.pointer (some ⟨q,i,none⟩)) (by simp only [execOp,tb58,tb60];go_simp) rfl rfl rfl h2
          ·intro V w2 HL HH
           have HL:Later wr w2:=HL
           have h2:V 2=_:=HH.1
           have h14:V 14=_:=HH.2.1
           have tb61:=(Rg.use_eval V fr 61 [(2,49),(14,61)] (by rw [hz];decide)).trans h14
           show Rg.Does1 _ _ V (Rg.putUse V [(2,49),(14,61)] fr) w2 _
           have cl:=(HCS.out _ (HB.out.trans (HL.mono HB.out.size))).2.1
           exact step_mv (.pointer (some ⟨gp,0,none⟩)) (by simp only [execOp,tb61];go_simp) rfl rfl rfl h2
          ·intro V w2 HL HH
           have h2:V 2=_:=HH.1
           have h15:V 15=_:=HH.2.1
           have tb62:=(Rg.use_eval V fr 62 [(2,49),(15,62)] (by rw [hz];decide)).trans h15
           show Rg.Does1 _ _ V (Rg.putUse V [(2,49),(15,62)] fr) w2 _
           exact step_mv (.pointer (some ⟨gp,0,none⟩)) (by simp only [execOp,tb62];go_simp) rfl rfl rfl h2
          ·intro V w2 HL HH
           have h2:V 2=_:=HH.1
           have h16:V 16=_:=HH.2.1
           have tb63:=(Rg.use_eval V fr 63 [(2,49),(16,63)] (by rw [hz];decide)).trans h16
           show Rg.Does1 _ _ V (Rg.putUse V [(2,49),(16,63)] fr) w2 _
           exact step_mv (.pointer (some ⟨gp,0,none⟩)) (by simp only [execOp,tb63];go_simp) rfl rfl rfl h2
          ·intro V w2 HL HH
           have h2:V 2=_:=HH.1
           have h17:V 17=_:=HH.2.1
           have tb64:=(Rg.use_eval V fr 64 [(2,49),(17,64)] (by rw [hz];decide)).trans h17
           show Rg.Does1 _ _ V (Rg.putUse V [(2,49),(17,64)] fr) w2 _
           exact step_mv (.pointer (some ⟨gp,0,none⟩)) (by simp only [execOp,tb64];go_simp) rfl rfl rfl h2
          ·intro V w2 HL HH
           have HL:Later wr w2:=HL
           have h2:V 2=_:=HH.1
           have h18:V 18=_:=HH.2.1
           have tb65:=(Rg.use_eval V fr 65 [(2,49),(18,65)] (by rw [hz];decide)).trans h18
           show Rg.Does1 _ _ V (Rg.putUse V [(2,49),(18,65)] fr) w2 _
           have cl:=(HCS.out _ (HB.out.trans (HL.mono HB.out.size))).2.2.1
           exact step_mv (.int .i64 ia) (by simp only [execOp,tb65];go_simp) rfl rfl rfl h2
          ·intro V w2 HL HH
           have h2:V 2=_:=HH.1
           have h7:V 7=_:=HH.2.1
           have h19:V 19=_:=HH.2.2.1
           have tb54:=(Rg.use_eval V fr 54 [(2,49),(7,54),(19,66)] (by rw [hz];decide)).trans h7
           have tb66:=(Rg.use_eval V fr 66 [(2,49),(7,54),(19,66)] (by rw [hz];decide)).trans h19
           show Rg.Does1 _ _ V (Rg.putUse V [(2,49),(7,54),(19,66)] fr) w2 _
           exact step_mv (.bool false) (by simp only [execOp,tb54,tb66];go_simp) rfl rfl rfl h2
          ·intro V w2 HL HH
           have h2:V 2=_:=HH.1
           have h20:V 20=_:=HH.2.1
           have tb49:=(Rg.use_eval V fr 49 [(2,49),(20,67)] (by rw [hz];decide)).trans h2
           have tb67:=(Rg.use_eval V fr 67 [(2,49),(20,67)] (by rw [hz];decide)).trans h20
           show Rg.Does1 _ _ V (Rg.putUse V [(2,49),(20,67)] fr) w2 _
           exact step_mv (.bool false) (by simp only [execOp,tb49,tb67];go_simp) rfl rfl rfl True.intro
          ·intro V w2 HL HH
           have h21:V 21=_:=HH.1
           have tb68:=(Rg.use_eval V fr 68 [(21,68)] (by rw [hz];decide)).trans h21
           show Rg.Does1 _ _ V (Rg.putUse V [(21,68)] fr) w2 _
           exact step_mv (.bool false) (by simp only [execOp,tb68];go_simp) rfl rfl rfl True.intro
          ·intro V w2 HL HH
           have h22:V 22=_:=HH.1
           have tb0:=(Rg.use_eval V fr 0 [(22,69)] (by rw [hz];decide)).trans y0
           show Rg.Does1 _ _ V (Rg.putUse V [(22,69)] fr) w2 _
           exact step_mv (.pointer (some ⟨p,0,none⟩)) (by simp only [execOp,tb0];go_simp) rfl rfl rfl h22
          ·intro V w2 HL HH
           have h22:V 22=_:=HH.1
           have tb4:=(Rg.use_eval V fr 4 [(22,69)] (by rw [hz];decide)).trans y4
           show Rg.Does1 _ _ V (Rg.putUse V [(22,69)] fr) w2 _
           exact step_mv (.pointer (some ⟨g,0,none⟩)) (by simp only [execOp,tb4];go_simp) rfl rfl rfl h22
          ·intro V w2 HL HH
           have HL:Later wr w2:=HL
           have h22:V 22=_:=HH.1
           have h23:V 23=_:=HH.2.1
           have h24:V 24=_:=HH.2.2.1
           have tb70:=(Rg.use_eval V fr 70 [(22,69),(23,70),(24,71)] (by rw [hz];decide)).trans h23
           have tb71:=(Rg.use_eval V fr 71 [(22,69),(23,70),(24,71)] (by rw [hz];decide)).trans h24
           show Rg.Does1 _ _ V (Rg.putUse V [(22,69),(23,70),(24,71)] fr) w2 _
           exact step_num #[.pointer (some ⟨p,0,none⟩),.pointer (some ⟨g,0,none⟩)] (.bool lb) (fun args w=>Rg.call_enter Tryz.func159 (by kernel_rfl) (by kernel_rfl) args w) rfl (by simp only [List.map_toArray,List.map_cons,List.map_nil,tb70,tb71]) rfl rfl rfl h22 (HLD.out w2 HL)
          ·intro V w2 HL HH
           have h22:V 22=_:=HH.1
           have h25:V 25=_:=HH.2.1
           have tb72:=(Rg.use_eval V fr 72 [(22,69),(25,72)] (by rw [hz];decide)).trans h25
           show Rg.Does1 _ _ V (Rg.putUse V [(22,69),(25,72)] fr) w2 _
           exact step_mv (.bool (!lb)) (by simp only [execOp,tb72];go_simp) rfl rfl rfl h22
          ·intro V w2 HL HH
           have h22:V 22=_:=HH.1
           have h26:V 26=_:=HH.2.1
           have tb69:=(Rg.use_eval V fr 69 [(22,69),(26,73)] (by rw [hz];decide)).trans h22
           have tb73:=(Rg.use_eval V fr 73 [(22,69),(26,73)] (by rw [hz];decide)).trans h26
           show Rg.Does1 _ _ V (Rg.putUse V [(22,69),(26,73)] fr) w2 _
           exact step_mv (.bool (!lb)) (by simp only [execOp,tb69,tb73];go_simp) rfl rfl rfl True.intro
         ·intro V w2 HI
          have v27:V 27=.bool (!lb):=HI.get 27 (by decide) (by rfl)
          have hlt:=later_drew HI.later
          have HB2:Hid (Below w.heap.size w w2):=HB.out.trans (hlt.mono HB.out.size)
          clear HI hlt
          simp only [Rg.putList,Act.put,List.setIfInBounds_toArray,List.set_cons_zero,List.set_cons_succ,Nat.zero_add,Nat.reduceAdd]
          rw [v27]
          clear v27
          cases lb
          ·have HN:=HNO2 rfl
           simp only [Bool.not_false]
           go_wp2_with fail
           first|exact HQ.out _ _ (.no HN.out HB2.out)|(go_ret;exact HQ.out _ _ (.no HN.out HB2.out))
          ·obtain ⟨HN1,HN2⟩:=HNX2 rfl
           simp only [Bool.not_true]
           go_wp2_with fail
           go_roundw
           case rel=>exact ⟨i+2,_,_,rfl,rfl,by go_num,by omega,HN1.out,HN2.out,HB2.out⟩
           case measure=>simp;omega
        ·have hle:ib≤ia:=by omega
         have HN:Hid (¬ Tr.Good t):=HNO fun h8=>hup h8.1
         clear hup HNX HNO
         go_upto_region 6 with (fail)
         clear c1
         refine Rg.wp_region_facts (by kernel_rfl) (fun opn=>List.getD [Rg.val (.int .i64 ((i:Int)+1)),Rg.val (.bool true),Rg.val (.bool true),Rg.val (.pointer (some ⟨g,0,none⟩)),Rg.val (.pointer (some ⟨g,0,none⟩)),Rg.val (.pointer (some ⟨g,0,none⟩)),Rg.val (.pointer (some ⟨g,0,none⟩)),Rg.val (.int .i64 ib),Rg.val (.pointer (some ⟨p,0,none⟩)),Rg.val (.pointer (some ⟨p,0,none⟩)),Rg.val (.pointer (some ⟨p,0,none⟩)),Rg.val (.slice (some ⟨q,0,none⟩) gs.length c),Rg.val (.int .i64 ((i:Int)+1)),Rg.val (.int .i64 i),Rg.val (.pointer (some ⟨q,i,none⟩)),Rg.val (.pointer (some ⟨gp,0,none⟩)),Rg.val (.pointer (some ⟨gp,0,none⟩)),Rg.val (.pointer (some ⟨gp,0,none⟩)),Rg.val (.pointer (some ⟨gp,0,none⟩)),Rg.val (.int .i64 ia),Rg.val (.bool true),Rg.val (.bool true),Rg.val (.bool true),Rg.val (undef),Rg.val (undef),Rg.val (undef),Rg.val (undef),Rg.val (.bool true)] opn Rg.any) [] [[],[(0,47)],[(1,48)],[(2,49)],[(2,49),(3,50)],[(2,49),(4,51)],[(2,49),(5,52)],[(2,49),(6,53)],[(2,49)],[(2,49),(8,55)],[(2,49),(9,56)],[(2,49),(10,57)],[(2,49)],[(2,49),(12,59)],[(2,49),(11,58),(13,60)],[(2,49),(14,61)],[(2,49),(15,62)],[(2,49),(16,63)],[(2,49),(17,64)],[(2,49),(18,65)],[(2,49),(7,54),(19,66)],[(2,49),(20,67)],[(21,68)],[(22,69)],[(22,69)],[(22,69),(23,70),(24,71)],[(22,69),(25,72)],[(22,69),(26,73)]] [] (by kernel_rfl) (by rfl) (by kernel_rfl) ?_ ?_
         ·intro fr ha
          have hz:fr.tmps.size=82:=by rw [ha];rfl
          have y0:fr.eval (.tmp 0)=.pointer (some ⟨p,0,none⟩):=by rw [ha];rfl
          have y3:fr.eval (.tmp 3)=.int .i64 ((i:Int)+1):=by rw [ha];rfl
          have y4:fr.eval (.tmp 4)=.pointer (some ⟨g,0,none⟩):=by rw [ha];rfl
          clear ha
          refine .cons ?_ (.cons ?_ (.cons ?_ (.cons ?_ (.cons ?_ (.cons ?_ (.cons ?_ (.cons ?_ (.cons ?_ (.cons ?_ (.cons ?_ (.cons ?_ (.cons ?_ (.cons ?_ (.cons ?_ (.cons ?_ (.cons ?_ (.cons ?_ (.cons ?_ (.cons ?_ (.cons ?_ (.cons ?_ (.cons ?_ (.cons ?_ (.cons ?_ (.cons ?_ (.cons ?_ (.cons ?_ (.nil))))))))))))))))))))))))))))
          ·intro V w2 HL HH
           have tb3:=(Rg.use_eval V fr 3 [] (by rw [hz];decide)).trans y3
           show Rg.Does1 _ _ V (Rg.putUse V [] fr) w2 _
           exact step_mv (.int .i64 ((i:Int)+1)) (by simp only [execOp,tb3];go_simp) rfl rfl rfl True.intro
          ·intro V w2 HL HH
           have h0:V 0=_:=HH.1
           have tb47:=(Rg.use_eval V fr 47 [(0,47)] (by rw [hz];decide)).trans h0
           show Rg.Does1 _ _ V (Rg.putUse V [(0,47)] fr) w2 _
           exact step_mv (.bool true) (by simp only [execOp,tb47];go_simp) rfl rfl rfl True.intro
          ·intro V w2 HL HH
           have h1:V 1=_:=HH.1
           have tb48:=(Rg.use_eval V fr 48 [(1,48)] (by rw [hz];decide)).trans h1
           show Rg.Does1 _ _ V (Rg.putUse V [(1,48)] fr) w2 _
           exact step_mv (.bool true) (by simp only [execOp,tb48];go_simp) rfl rfl rfl True.intro
          ·intro V w2 HL HH
           have h2:V 2=_:=HH.1
           have tb4:=(Rg.use_eval V fr 4 [(2,49)] (by rw [hz];decide)).trans y4
           show Rg.Does1 _ _ V (Rg.putUse V [(2,49)] fr) w2 _
           exact step_mv (.pointer (some ⟨g,0,none⟩)) (by simp only [execOp,tb4];go_simp) rfl rfl rfl h2
          ·intro V w2 HL HH
           have h2:V 2=_:=HH.1
           have h3:V 3=_:=HH.2.1
           have tb50:=(Rg.use_eval V fr 50 [(2,49),(3,50)] (by rw [hz];decide)).trans h3
           show Rg.Does1 _ _ V (Rg.putUse V [(2,49),(3,50)] fr) w2 _
           exact step_mv (.pointer (some ⟨g,0,none⟩)) (by simp only [execOp,tb50];go_simp) rfl rfl rfl h2
          ·intro V w2 HL HH
           have h2:V 2=_:=HH.1
           have h4:V 4=_:=HH.2.1
           have tb51:=(Rg.use_eval V fr 51 [(2,49),(4,51)] (by rw [hz];decide)).trans h4
           show Rg.Does1 _ _ V (Rg.putUse V [(2,49),(4,51)] fr) w2 _
           exact step_mv (.pointer (some ⟨g,0,none⟩)) (by simp only [execOp,tb51];go_simp) rfl rfl rfl h2
          ·intro V w2 HL HH
           have h2:V 2=_:=HH.1
           have h5:V 5=_:=HH.2.1
           have tb52:=(Rg.use_eval V fr 52 [(2,49),(5,52)] (by rw [hz];decide)).trans h5
           show Rg.Does1 _ _ V (Rg.putUse V [(2,49),(5,52)] fr) w2 _
           exact step_mv (.pointer (some ⟨g,0,none⟩)) (by simp only [execOp,tb52];go_simp) rfl rfl rfl h2
          ·intro V w2 HL HH
           have HL:Later wr w2:=HL
           have h2:V 2=_:=HH.1
           have h6:V 6=_:=HH.2.1
           have tb53:=(Rg.use_eval V fr 53 [(2,49),(6,53)] (by rw [hz];decide)).trans h6
           show Rg.Does1 _ _ V (Rg.putUse V [(2,49),(6,53)] fr) w2 _
           have cl:=(HCS.out _ (HB.out.trans (HL.mono HB.out.size))).2.2.2
           exact step_mv (.int .i64 ib) (by simp only [execOp,tb53];go_simp) rfl rfl rfl h2
          ·intro V w2 HL HH
           have h2:V 2=_:=HH.1
           have tb0:=(Rg.use_eval V fr 0 [(2,49)] (by rw [hz];decide)).trans y0
           show Rg.Does1 _ _ V (Rg.putUse V [(2,49)] fr) w2 _
           exact step_mv (.pointer (some ⟨p,0,none⟩)) (by simp only [execOp,tb0];go_simp) rfl rfl rfl h2
          ·intro V w2 HL HH
           have h2:V 2=_:=HH.1
           have h8:V 8=_:=HH.2.1
           have tb55:=(Rg.use_eval V fr 55 [(2,49),(8,55)] (by rw [hz];decide)).trans h8
           show Rg.Does1 _ _ V (Rg.putUse V [(2,49),(8,55)] fr) w2 _
           exact step_mv (.pointer (some ⟨p,0,none⟩)) (by simp only [execOp,tb55];go_simp) rfl rfl rfl h2
          ·intro V w2 HL HH
           have h2:V 2=_:=HH.1
           have h9:V 9=_:=HH.2.1
           have tb56:=(Rg.use_eval V fr 56 [(2,49),(9,56)] (by rw [hz];decide)).trans h9
           show Rg.Does1 _ _ V (Rg.putUse V [(2,49),(9,56)] fr) w2 _
           exact step_mv (.pointer (some ⟨p,0,none⟩)) (by simp only [execOp,tb56];go_simp) rfl rfl rfl h2
          ·intro V w2 HL HH
           have HL:Later wr w2:=HL
           have h2:V 2=_:=HH.1
           have h10:V 10=_:=HH.2.1
           have tb57:=(Rg.use_eval V fr 57 [(2,49),(10,57)] (by rw [hz];decide)).trans h10
           show Rg.Does1 _ _ V (Rg.putUse V [(2,49),(10,57)] fr) w2 _
           have cl:=(HCS.out _ (HB.out.trans (HL.mono HB.out.size))).1
           exact step_mv (.slice (some ⟨q,0,none⟩) gs.length c) (by simp only [execOp,tb57];go_simp) rfl rfl rfl h2
          ·intro V w2 HL HH
           have h2:V 2=_:=HH.1
           have tb3:=(Rg.use_eval V fr 3 [(2,49)] (by rw [hz];decide)).trans y3
           show Rg.Does1 _ _ V (Rg.putUse V [(2,49)] fr) w2 _
           exact step_mv (.int .i64 ((i:Int)+1)) (by simp only [execOp,tb3];go_simp) rfl rfl rfl h2
          ·intro V w2 HL HH
           have h2:V 2=_:=HH.1
           have h12:V 12=_:=HH.2.1
           have tb59:=(Rg.use_eval V fr 59 [(2,49),(12,59)] (by rw [hz];decide)).trans h12
           show Rg.Does1 _ _ V (Rg.putUse V [(2,49),(12,59)] fr) w2 _
           have hwr:IntKind.i64.wrap (i:Int)=(i:Int):=IntWalk.i64_in _ (by omega)
           exact step_mv (.int .i64 i) (by simp only [execOp,tb59];go_simp) rfl rfl rfl h2
          ·intro V w2 HL HH
           have h2:V 2=_:=HH.1
           have h11:V 11=_:=HH.2.1
           have h13:V 13=_:=HH.2.2.1
           have tb58:=(Rg.use_eval V fr 58 [(2,49),(11,58),(13,60)] (by rw [hz];decide)).trans h11
           have tb60:=(Rg.use_eval V fr 60 [(2,49),(11,58),(13,60)] (by rw [hz];decide)).trans h13
           show Rg.Does1 _ _ V (Rg.putUse V [(2,49),(11,58),(13,60)] fr) w2 _
           exact step_mv (.pointer (some ⟨q,i,none⟩)) (by simp only [execOp,tb58,tb60];go_simp) rfl rfl rfl h2
          ·intro V w2 HL HH
           have HL:Later wr w2:=HL
           have h2:V 2=_:=HH.1
           have h14:V 14=_:=HH.2.1
           have tb61:=(Rg.use_eval V fr 61 [(2,49),(14,61)] (by rw [hz];decide)).trans h14
           show Rg.Does1 _ _ V (Rg.putUse V [(2,49),(14,61)] fr) w2 _
           have cl:=(HCS.out _ (HB.out.trans (HL.mono HB.out.size))).2.1
           exact step_mv (.pointer (some ⟨gp,0,none⟩)) (by simp only [execOp,tb61];go_simp) rfl rfl rfl h2
          ·intro V w2 HL HH
           have h2:V 2=_:=HH.1
           have h15:V 15=_:=HH.2.1
           have tb62:=(Rg.use_eval V fr 62 [(2,49),(15,62)] (by rw [hz];decide)).trans h15
           show Rg.Does1 _ _ V (Rg.putUse V [(2,49),(15,62)] fr) w2 _
           exact step_mv (.pointer (some ⟨gp,0,none⟩)) (by simp only [execOp,tb62];go_simp) rfl rfl rfl h2
          ·intro V w2 HL HH
           have h2:V 2=_:=HH.1
           have h16:V 16=_:=HH.2.1
           have tb63:=(Rg.use_eval V fr 63 [(2,49),(16,63)] (by rw [hz];decide)).trans h16
           show Rg.Does1 _ _ V (Rg.putUse V [(2,49),(16,63)] fr) w2 _
           exact step_mv (.pointer (some ⟨gp,0,none⟩)) (by simp only [execOp,tb63];go_simp) rfl rfl rfl h2
          ·intro V w2 HL HH
           have h2:V 2=_:=HH.1
           have h17:V 17=_:=HH.2.1
           have tb64:=(Rg.use_eval V fr 64 [(2,49),(17,64)] (by rw [hz];decide)).trans h17
           show Rg.Does1 _ _ V (Rg.putUse V [(2,49),(17,64)] fr) w2 _
           exact step_mv (.pointer (some ⟨gp,0,none⟩)) (by simp only [execOp,tb64];go_simp) rfl rfl rfl h2
          ·intro V w2 HL HH
           have HL:Later wr w2:=HL
           have h2:V 2=_:=HH.1
           have h18:V 18=_:=HH.2.1
           have tb65:=(Rg.use_eval V fr 65 [(2,49),(18,65)] (by rw [hz];decide)).trans h18
           show Rg.Does1 _ _ V (Rg.putUse V [(2,49),(18,65)] fr) w2 _
           have cl:=(HCS.out _ (HB.out.trans (HL.mono HB.out.size))).2.2.1
           exact step_mv (.int .i64 ia) (by simp only [execOp,tb65];go_simp) rfl rfl rfl h2
          ·intro V w2 HL HH
           have h2:V 2=_:=HH.1
           have h7:V 7=_:=HH.2.1
           have h19:V 19=_:=HH.2.2.1
           have tb54:=(Rg.use_eval V fr 54 [(2,49),(7,54),(19,66)] (by rw [hz];decide)).trans h7
           have tb66:=(Rg.use_eval V fr 66 [(2,49),(7,54),(19,66)] (by rw [hz];decide)).trans h19
           show Rg.Does1 _ _ V (Rg.putUse V [(2,49),(7,54),(19,66)] fr) w2 _
           exact step_mv (.bool true) (by simp only [execOp,tb54,tb66];go_simp) rfl rfl rfl h2
          ·intro V w2 HL HH
           have h2:V 2=_:=HH.1
           have h20:V 20=_:=HH.2.1
           have tb49:=(Rg.use_eval V fr 49 [(2,49),(20,67)] (by rw [hz];decide)).trans h2
           have tb67:=(Rg.use_eval V fr 67 [(2,49),(20,67)] (by rw [hz];decide)).trans h20
           show Rg.Does1 _ _ V (Rg.putUse V [(2,49),(20,67)] fr) w2 _
           exact step_mv (.bool true) (by simp only [execOp,tb49,tb67];go_simp) rfl rfl rfl True.intro
          ·intro V w2 HL HH
           have h21:V 21=_:=HH.1
           have tb68:=(Rg.use_eval V fr 68 [(21,68)] (by rw [hz];decide)).trans h21
           show Rg.Does1 _ _ V (Rg.putUse V [(21,68)] fr) w2 _
           exact step_mv (.bool true) (by simp only [execOp,tb68];go_simp) rfl rfl rfl True.intro
          ·intro V w2 HL HH
           have h22:V 22=_:=HH.1
           exact Rg.step_not rfl h22 (Rg.alias_none rfl _ _) rfl rfl rfl
          ·intro V w2 HL HH
           have h22:V 22=_:=HH.1
           exact Rg.step_not rfl h22 (Rg.alias_none rfl _ _) rfl rfl rfl
          ·intro V w2 HL HH
           have h22:V 22=_:=HH.1
           have h23:V 23=_:=HH.2.1
           have h24:V 24=_:=HH.2.2.1
           exact Rg.step_not rfl h22 (Rg.alias_none rfl _ _) rfl rfl rfl
          ·intro V w2 HL HH
           have h22:V 22=_:=HH.1
           have h25:V 25=_:=HH.2.1
           exact Rg.step_not rfl h22 (Rg.alias_none rfl _ _) rfl rfl rfl
          ·intro V w2 HL HH
           have h22:V 22=_:=HH.1
           have h26:V 26=_:=HH.2.1
           have tb69:=(Rg.use_eval V fr 69 [(22,69),(26,73)] (by rw [hz];decide)).trans h22
           have tb73:=(Rg.use_eval V fr 73 [(22,69),(26,73)] (by rw [hz];decide)).trans h26
           show Rg.Does1 _ _ V (Rg.putUse V [(22,69),(26,73)] fr) w2 _
           exact step_mv (.bool true) (by simp only [execOp,tb69,tb73];go_simp) rfl rfl rfl True.intro
         ·intro V w2 HI
          have v27:V 27=.bool true:=HI.get 27 (by decide) (by rfl)
          have hlt:=later_drew HI.later
          have HB2:Hid (Below w.heap.size w w2):=HB.out.trans (hlt.mono HB.out.size)
          clear HI hlt
          simp only [Rg.putList,Act.put,List.setIfInBounds_toArray,List.set_cons_zero,List.set_cons_succ,Nat.zero_add,Nat.reduceAdd]
          rw [v27]
          clear v27
          go_wp2_with fail
          first|exact HQ.out _ _ (.no HN.out HB2.out)|(go_ret;exact HQ.out _ _ (.no HN.out HB2.out))
      ·obtain rfl:j=gs.length:=by omega
       have HALL:Hid (Tr.UpTo t t.length∧t.all (leadsB t)=true):=by
        have h1:=HUT.out
        have h2:=HLA.out
        rw [show gs.length=t.length from HL.out] at h1 h2
        rw [List.take_length] at h2
        exact ⟨h1,h2⟩
       have hne:t≠[]:=by
        intro h9
        have h1:gs.length=t.length:=HL.out
        rw [h9] at h1
        have h2:gs.length=0:=h1
        have h3:0<gs.length:=HPOS.out
        omega
       have HLK:=Lib.hid (linked_any (HT.out.below HB.out) hne (by have:=HL.out;omega) (fun e he=>by have:=(HRW.out e he).1;exact ⟨this.1,this.2.1⟩) (fun e he=>⟨(HRW.out e he).2.2.1,fun n hn=>by
        obtain ⟨_,k,h1,h2⟩:=(HRW.out e he).2.2.2.2 n hn
        rw [h1];omega⟩))
       have HHF:t.all (linkB t)=true→Hid (Tr.Half t):=fun h9=>Tr.half_of HRW.out (by have:=HL.out;omega) HHEAD.out HALL.out.1 HALL.out.2 h9
       have HNL:t.all (linkB t)=false→Hid (¬ Tr.Good t):=fun h9 hG=>by
        have:=hG.link_
        rw [h9] at this;cases this
       obtain ⟨kb,hkb⟩:∃ kb,kb=t.all (linkB t):=⟨_,rfl⟩
       rw [← hkb] at HLK HHF HNL
       clear hkb hne
       go_wp2_with fail
       refine HLK.out.mono ?_
       rintro r w5 ⟨rfl,hb5⟩
       have HB5:Hid (Below w.heap.size w w5):=HB.out.trans (hb5.mono HB.out.size)
       clear hb5 HLK
       cases kb
       ·have HN:=HNL rfl
        go_wp2_with fail
        first|exact HQ.out _ _ (.no HN.out HB5.out)|(go_ret;exact HQ.out _ _ (.no HN.out HB5.out))
       ·have HH:=HHF rfl
        have HJ:=Lib.hid (joined_any (HT.out.below HB5.out) HH.out)
        have HRES:Hid ((decide (Tr.found t=Tr.dirCount t)&&decide (Tr.most (Tr.paths t) 0≤8))=true↔Tr.Good t):=by
         show _↔_
         simp only [Bool.and_eq_true,decide_eq_true_eq]
         exact ⟨fun h9=>HH.out.good h9.1 h9.2,fun hG=>hG.joined⟩
        obtain ⟨jb,hjb⟩:∃ jb,jb=(decide (Tr.found t=Tr.dirCount t)&&decide (Tr.most (Tr.paths t) 0≤8)):=⟨_,rfl⟩
        rw [← hjb] at HJ HRES
        clear hjb HHF HNL
        go_wp2_with fail
        refine HJ.out.mono ?_
        rintro r w6 ⟨rfl,hb6⟩
        have HB6:Hid (Below w.heap.size w w6):=HB5.out.trans (hb6.mono HB5.out.size)
        clear hb6 HJ
        go_wp2_with fail
        first|exact HQ.out _ _ ⟨jb,rfl,HRES.out,HB6.out⟩|(go_ret;exact HQ.out _ _ ⟨jb,rfl,HRES.out,HB6.out⟩)
    ·have HN:Hid (¬ Tr.Good (e0 :: rest)):=fun hG=>by
      have:=hG.head
      unfold Tr.headB at this
      simp [hkd] at this
     rw [hid] at f0
     have hb:(e0.nd.kind==2)=false:=by simpa using hkd
     clear hid hkd
     go_enter Tryz.func121,Tryz.ntmps121
     go_wp2_with fail
     all_goals first
      | exact HQ.out _ _ (.no HN.out (Below.refl _ _))
      | (exfalso;rename_i hz9;rw [hz9] at hb;exact absurd hb (by decide))
      | (go_ret;exact HQ.out _ _ (.no HN.out (Below.refl _ _)))
   ·have HN:Hid (¬ Tr.Good (e0 :: rest)):=fun hG=>by
     have:=hG.head
     unfold Tr.headB at this
     simp [hid] at this
    have hb:(e0.nd.id==0)=false:=by simpa using hid
    clear hid
    go_enter Tryz.func121,Tryz.ntmps121
    go_wp2_with fail
    all_goals first
     | exact HQ.out _ _ (.no HN.out (Below.refl _ _))
     | (exfalso;rename_i hz9;rw [hz9] at hb;exact absurd hb (by decide))
     | (go_ret;exact HQ.out _ _ (.no HN.out (Below.refl _ _)))
theorem right_any (h:TIn p av gs S t w) (hr:Tr.Raw t) (h64:t.length≤64):Calls Tryz.prog 121 #[.pointer (some ⟨p,0,none⟩)] w (RightOut t w):=right_to (fun _ _ h=>h) h hr h64
end Tm
end Go.Proofs.YtbnpgakmhhfjkaaGreatDoor
