/-
  OWN WORK. TrRename, TrObjB, SnObj, StMem, StWay, StTree, StLook, StLeaf, StRuns, StFds, StFree, StUsed, StReply, StUnlink, StAlone
-/
import Derived.Test.YtbnpgakmhhfjkaaGreatDoorO09
import Derived.Test.YtbnpgakmhhfjkaaGreatDoorO03
import Derived.Test.YtbnpgakmhhfjkaaGreatDoorO13
import Derived.Test.YtbnpgakmhhfjkaaGreatDoorO14
import Derived.Test.YtbnpgakmhhfjkaaGreatDoorO04
import Derived.Deep.MidRow
import Derived.Test.YtbnpgakmhhfjkaaGreatDoorO12
namespace Go.Proofs.YtbnpgakmhhfjkaaGreatDoor
open Go.RowKit Rc
open Tr (Nm En T)
namespace Tr
theorem within_eq (l o:List Bs):decide (o=l.take o.length)=within l o:=by
 unfold within
 rw [Bool.eq_iff_iff,decide_eq_true_iff,List.isPrefixOf_iff_prefix,List.prefix_iff_eq_take]
theorem high_le (t:T):∀ (n:Nat) (i:Int),high t n i≤n
 | 0,i=>Nat.le_refl _
 | n+1,i=>by
   rw [high]
   have key:∀ (l:List Nm) (m:Nat),m≤n+1→l.foldl (fun m k=>max m (1+high t n k.2)) m≤n+1:=by
    intro l
    induction l with
    | nil=>intro m h;exact h
    | cons k l ih =>
      intro m h
      rw [List.foldl_cons]
      have:=high_le t n k.2
      exact ih _ (by omega)
   exact key _ _ (by omega)
end Tr
namespace Tm
variable {p:Nat} {av:Value} {gs:List Nat} {S:Nat→Prop} {t t1:T} {w w1:World}
set_option maxHeartbeats 8000000 in
set_option maxRecDepth 100000 in
theorem rename_any (h:TIn p av gs S t w) (hG:Tr.Good t) (A B:Option Addr) (q r:List Bs) (cap cap2:Nat) (hr:RdS w A q) (hc:q.length≤cap) (hl:q.length≤1000000) (hs:∀ s ∈ q,s.length≤1000000) (hr2:RdS w B r) (hc2:r.length≤cap2) (hl2:r.length≤1000000) (hs2:∀ s ∈ r,s.length≤1000000) :
    Calls Tryz.prog 47 #[.pointer (some ⟨p,0,none⟩),.slice A q.length cap,.slice B r.length cap2] w (TTurn p (Tr.rename t q r).2 (.int .i64 ((Tr.rename t q r).1:Nat)) (TrS p av S) w):=by
 obtain ⟨wa,hwa⟩:∃ wa,wa=w.alloc (.cells #[.slice A q.length cap,.slice B r.length cap2] 29):=⟨_,rfl⟩
 have hba:Below w.heap.size w wa:=by rw [hwa];exact below_new w _
 have HFM:=Lib.hid (formed_two w A B q r cap cap2 hr hc hl hs hr2 hc2 hl2 hs2)
 rw [← hwa] at HFM
 have HS:Hid (∀ x W,Below w.heap.size w W→TTurn p t x (TrS p av S) w (.returned x) W):=fun x W hW=>TTurn.stay h hW
 have HAT:=Lib.hid (at_any (h.below hba) hG A q cap (hr.below hba) hl)
 have HPQ:=Lib.hid (fun W (hW:Below w.heap.size w W)=>place_any (h.below hW) hG A q cap (hr.below hW) hc hl)
 have HPL:=Lib.hid (fun W (hW:Below w.heap.size w W)=>place_any (h.below hW) hG B r cap2 (hr2.below hW) hc2 hl2)
 have HWI:=Lib.hid (fun W (hW:Below w.heap.size w W)=>within_names W r q B A cap2 cap (hr2.below hW) (hr.below hW) hl2 hl)
 rw [Tr.within_eq] at HWI
 have HBA:=Lib.hid hba
 have H:=Lib.hid h
 have HG:=Lib.hid hG
 have hrl:=hl2
 obtain ⟨R,hR⟩:∃ R,R=Tr.rename t q r:=⟨_,rfl⟩
 rw [← hR]
 obtain ⟨fm,hfm⟩:∃ fm,fm=if Tr.formed q≠0 then Tr.formed q else Tr.formed r:=⟨_,rfl⟩
 rw [← hfm] at HFM
 have hR1:R=if fm≠0 then (fm,t) else if (Tr.lookF t 0 q).2≠0 then ((Tr.lookF t 0 q).2,t)
     else if q=[] then (1,t) else if (Tr.place t r).2.2≠0 then ((Tr.place t r).2.2,t)
     else if Tr.kindOf t (Tr.lookF t 0 q).1=2∧Tr.within r q=true then (1,t)
     else if Tr.get (Tr.kids t (Tr.place t r).1) (Tr.place t r).2.1=some (Tr.lookF t 0 q).1 then (0,t)
     else if (Tr.get (Tr.kids t (Tr.place t r).1) (Tr.place t r).2.1).isSome then (21,t)
     else if 8<r.length+Tr.high t 64 (Tr.lookF t 0 q).1 then (3,t)
     else (0,Tr.put (Tr.cut t (Tr.place t q).1 (Tr.place t q).2.1) (Tr.place t r).1 (Tr.place t r).2.1 (Tr.lookF t 0 q).1):=by
  rw [hR,hfm]
  unfold Tr.rename
  by_cases h1:Tr.formed q=0
  ·simp only [h1,ne_eq,not_true_eq_false,if_false]
  ·simp only [h1,ne_eq,not_false_eq_true,if_true]
 have HR1:=Lib.hid hR1
 have HSM:=Lib.hid hs2
 clear h hG hr hr2 hba hfm hs hs2 hR hR1
 go_enter Tryz.func47,Tryz.ntmps47
 go_wp2_with fail
 rw [← hwa]
 clear hwa
 refine HFM.out.mono ?_
 rintro e w1 ⟨rfl,rfl⟩
 by_cases hf:fm=0
 case neg =>
  have hfi:((fm:Int)==0)=false:=by rw [beq_eq_false_iff_ne];omega
  have HN:Hid (R=(fm,t)):=by
   have:=HR1.out
   rw [if_pos hf] at this
   exact this
  clear hf
  go_wp2_with fail
  go_ret
  rw [HN.out]
  exact HS.out _ _ HBA.out
 subst hf
 have HR2:=Lib.hid HR1.out
 simp only [ne_eq,not_true_eq_false,if_false] at HR2
 clear HR1
 go_wp2_with fail
 refine HAT.out.mono ?_
 rintro e w2 ⟨rfl,hb2⟩
 have HB2:Hid (Below w.heap.size w w2):=HBA.out.trans (hb2.mono HBA.out.size)
 clear hb2
 by_cases hfa:(Tr.lookF t 0 q).2=0
 case neg =>
  obtain ⟨n,hn⟩:∃ n,n=(Tr.lookF t 0 q).2:=⟨_,rfl⟩
  have HN:Hid (R=(n,t)):=by
   have:=HR2.out
   rw [if_pos hfa] at this
   rw [hn];exact this
  have hpp:ptrAt gs t q=.pointer none:=by unfold ptrAt;rw [if_neg hfa]
  rw [← hn] at hfa
  rw [hpp,← hn]
  have hni:((n:Int)==0)=false:=by rw [beq_eq_false_iff_ne];omega
  clear hfa hn hpp
  go_wp2_with fail
  go_ret
  rw [HN.out]
  exact HS.out _ _ HB2.out
 obtain ⟨ef,hef⟩:=Option.isSome_iff_exists.1 (HG.out.look_is hfa)
 obtain ⟨i,hi⟩:∃ i,i=(Tr.lookF t 0 q).1:=⟨_,rfl⟩
 have hlk:Tr.lookF t 0 q=(i,0):=Prod.ext hi.symm hfa
 have hpp:ptrAt gs t q=ptrOf gs t (Tr.lookF t 0 q).1:=by unfold ptrAt;rw [if_pos hfa]
 have hR3:=HR2.out
 rw [if_neg (by rw [hfa];simp)] at hR3
 rw [hpp,hfa]
 rw [← hi] at hef hR3 ⊢
 obtain ⟨gf,Sf,hpf,hEf,_,_⟩:=(H.out.below HB2.out).ptr HG.out hef
 rw [Tr.kindOf_of hef] at hR3
 rw [hpf]
 have HR3:=Lib.hid hR3
 have HEF:=Lib.hid hef
 have HPF:=Lib.hid hpf
 have HLK:=Lib.hid hlk
 clear hfa hef hi hpf hEf hR3 HR2 hlk hpp
 go_wp2_with fail
 refine (HPQ.out w2 HB2.out).mono ?_
 rintro e w3 ⟨rfl,hb3⟩
 have HB3:Hid (Below w.heap.size w w3):=HB2.out.trans (hb3.mono HB2.out.size)
 clear hb3
 by_cases hq0:q=[]
 case pos =>
  subst hq0
  have hpv:placeV gs t []=.tuple #[.pointer none,.string (strOf []),.int .i64 1]:=by
   unfold placeV Tr.place
   rfl
  rw [hpv]
  have HN:Hid (R=(1,t)):=by
   have:=HR3.out
   rw [if_pos rfl] at this
   exact this
  clear hpv
  go_wp2_with fail
  go_ret
  rw [HN.out]
  exact HS.out _ _ HB3.out
 obtain ⟨q1,x0,d0,en0,hqe,hlr,hfd0,hkd0,hg0,hpl0⟩:=HG.out.looked HLK.out hq0
 have hR4:=HR3.out
 rw [if_neg hq0,hpl0] at hR4
 obtain ⟨gd0,Sd0,hpd0,_,_,hnl0⟩:=(H.out.below HB3.out).ptr HG.out hfd0
 have hpv0:placeV gs t q=.tuple #[.pointer (some ⟨gd0,0,none⟩),.string (strOf x0),.int .i64 0]:=by
  unfold placeV
  rw [hpl0]
  simp only [if_true,hpd0];rfl
 rw [hpv0]
 have HR4:=Lib.hid hR4
 have HFD0:=Lib.hid hfd0
 have HPD0:=Lib.hid hpd0
 have HNL0:=Lib.hid hnl0
 clear hq0 hqe hlr hfd0 hkd0 hg0 hpl0 hR4 hpd0 hnl0 hpv0 HR3
 go_wp2_with fail
 refine (HPL.out w3 HB3.out).mono ?_
 rintro e w4 ⟨rfl,hb4⟩
 have HB4:Hid (Below w.heap.size w w4):=HB3.out.trans (hb4.mono HB3.out.size)
 clear hb4
 by_cases hp0:(Tr.place t r).2.2=0
 case neg =>
  obtain ⟨pn,hpn⟩:∃ pn,pn=(Tr.place t r).2.2:=⟨_,rfl⟩
  have HN:Hid (R=(pn,t)):=by
   have:=HR4.out
   rw [if_pos hp0,← hpn] at this
   exact this
  have hpi:((pn:Int)==0)=false:=by rw [beq_eq_false_iff_ne];omega
  unfold placeV
  rw [if_neg hp0,← hpn]
  obtain ⟨px,hpx⟩:∃ px,px=(Tr.place t r).2.1:=⟨_,rfl⟩
  rw [← hpx]
  clear hp0 hpn hpx
  go_wp2_with fail
  go_ret
  rw [HN.out]
  exact HS.out _ _ HB4.out
 obtain ⟨r1,x,en,hq,hlkr,hx,hfd,hkd,hplace⟩:=Tr.place_is HG.out hp0
 obtain ⟨d,hd⟩:∃ d,d=en.nd.id:=⟨_,rfl⟩
 rw [hplace] at hfd
 rw [← hd] at hplace hfd
 simp only at hfd
 obtain ⟨gd,Sd,hpd,hEd,_,hnl⟩:=(H.out.below HB4.out).ptr HG.out hfd
 have HPV:Hid (placeV gs t r=.tuple #[.pointer (some ⟨gd,0,none⟩),.string (strOf x),.int .i64 0]):=by
  show _=_
  unfold placeV
  rw [hplace]
  simp only [if_true,hpd];rfl
 have hxl:x.length≤1000000:=HSM.out x (by rw [hq];simp)
 have hR5:=HR4.out
 rw [hplace] at hR5
 simp only [ne_eq,not_true_eq_false,if_false] at hR5
 rw [Tr.kids_of hfd] at hR5
 have HFD:=Lib.hid hfd
 have HPD:=Lib.hid hpd
 have HNL:=Lib.hid hnl
 have HXL:=Lib.hid hxl
 have HR5:=Lib.hid hR5
 rw [HPV.out]
 obtain ⟨gf2,Sf2,hpf2,hEf2,_,_⟩:=(H.out.below HB4.out).ptr HG.out HEF.out
 obtain rfl:gf2=gf:=ptr_inj (hpf2.symm.trans HPF.out)
 have c1:=hEf2.cells.2.1
 obtain ⟨ek,hek⟩:∃ ek,ek=ef.nd.kind:=⟨_,rfl⟩
 rw [← hek] at c1 HR5
 obtain ⟨b,hb⟩:∃ b,b=Tr.within r q:=⟨_,rfl⟩
 rw [← hb] at HR5 HWI
 have HWJ:=Lib.hid (HWI.out w4 HB4.out)
 have HID:Hid (∀ W,Below w.heap.size w W→Calls Tryz.prog 108 #[.pointer (some ⟨gd,0,none⟩),.string (strOf x)] W (fun r w'=>r=.returned (told (Tr.get en.names x))∧Below W.heap.size W w')∧W.cell? ⟨gf2,0,none⟩=some (.int .i64 i)):=fun W hW=>by
  obtain ⟨g3,S3,hp3,hE3,_,hn3⟩:=(H.out.below hW).ptr HG.out HFD.out
  obtain rfl:g3=gd:=ptr_inj (hp3.symm.trans HPD.out)
  obtain ⟨g4,S4,hp4,hE4,_,_⟩:=(H.out.below hW).ptr HG.out HEF.out
  obtain rfl:g4=gf2:=ptr_inj (hp4.symm.trans HPF.out)
  exact ⟨id_any hE3 x (by omega),by rw [hE4.cells.1,(Tr.find_some HEF.out).2]⟩
 have HHI:Hid (∀ W,Below w.heap.size w W→Calls Tryz.prog 109 #[.pointer (some ⟨p,0,none⟩),.pointer (some ⟨gf2,0,none⟩)] W fun r w'=>r=.returned (.int .i64 (Tr.high t 64 i:Nat))∧Below W.heap.size W w'):=fun W hW=>height_any (H.out.below hW) HG.out HEF.out HPF.out
 clear hp0 hq hlkr hx hfd hkd hplace hpd hEd hR5 hnl hxl hd HR4 hpf2 hEf2 hek hb HWI
 have key:Hid ((ek=2∧b=true)∨(ek=2∧b=false)∨ek≠2):=by
  show _∨_
  by_cases h:ek=2
  ·cases b
   ·exact .inr (.inl ⟨h,rfl⟩)
   ·exact .inl ⟨h,rfl⟩
  ·exact .inr (.inr h)
 rcases key.out with ⟨h2,hb⟩|h2
 ·subst h2 hb
  have HN:Hid (R=(1,t)):=by
   have:=HR5.out
   rw [if_pos ⟨rfl,rfl⟩] at this
   exact this
  clear key
  go_wp2_with fail
  refine HWJ.out.mono ?_
  rintro e w5 ⟨rfl,rfl⟩
  go_wp2_with fail
  go_ret
  rw [HN.out]
  exact HS.out _ _ HB4.out
 have HR6:Hid (R=if Tr.get en.names x=some i then (0,t) else if (Tr.get en.names x).isSome then (21,t) else if 8<r.length+Tr.high t 64 i then (3,t) else (0,Tr.put (Tr.cut t d0 x0) d x i)):=by
  have:=HR5.out
  rw [if_neg (by rintro ⟨h3,h4⟩;rcases h2 with ⟨_,h5⟩|h5;· rw [h5] at h4;cases h4
                 ·exact h5 h3)] at this
  exact this
 clear HR5 key
 obtain ⟨o,ho⟩:∃ o,o=Tr.get en.names x:=⟨_,rfl⟩
 rw [← ho] at HR6 HID
 clear ho
 rcases h2 with ⟨h2,hb⟩|h2
 ·subst h2 hb
  go_wp2_with fail
  refine HWJ.out.mono ?_
  rintro e w5 ⟨rfl,rfl⟩
  go_wp2_with fail
  refine (HID.out w4 HB4.out).1.mono ?_
  rintro e w6 ⟨rfl,hb6⟩
  have HB6:Hid (Below w.heap.size w w6):=HB4.out.trans (hb6.mono HB4.out.size)
  have c0:=(HID.out w6 HB6.out).2
  clear hb6 c1
  unfold told
  cases o with
  | some k =>
    by_cases hki:k=i
    ·subst hki
     have HN:Hid (R=(0,t)):=by
      have:=HR6.out
      rw [if_pos rfl] at this
      exact this
     go_wp2_with fail
     go_ret
     rw [HN.out]
     exact HS.out _ _ HB6.out
    ·have hkb:(k==i)=false:=by rw [beq_eq_false_iff_ne];exact hki
     have HN:Hid (R=(21,t)):=by
      have:=HR6.out
      rw [if_neg (fun e=>hki (Option.some.inj e)),if_pos (show (some k).isSome=true from rfl)] at this
      exact this
     clear hki
     go_wp2_with fail
     go_ret
     rw [HN.out]
     exact HS.out _ _ HB6.out
  | none =>
    have HR7:Hid (R=if 8<r.length+Tr.high t 64 i then (3,t) else (0,Tr.put (Tr.cut t d0 x0) d x i)):=by
     have:=HR6.out
     rw [if_neg (by simp),if_neg (by simp)] at this
     exact this
    have HHJ:=Lib.hid (HHI.out w6 HB6.out)
    have hhl:=Tr.high_le t 64 i
    obtain ⟨hi,hhi⟩:∃ hi,hi=Tr.high t 64 i:=⟨_,rfl⟩
    rw [← hhi] at HR7 HHJ hhl
    obtain ⟨rl,hrl2⟩:∃ rl,rl=r.length:=⟨_,rfl⟩
    rw [← hrl2] at HR7 hrl
    have wl:IntKind.i64.wrap ((r.length:Int)+(hi:Int))=((rl+hi:Nat):Int):=by rw [IntKind.wrap_i64,← hrl2];omega
    clear HHI hhi c0
    go_wp2_with fail
    refine HHJ.out.mono ?_
    rintro e w7 ⟨rfl,hb7⟩
    have HB7:Hid (Below w.heap.size w w7):=HB6.out.trans (hb7.mono HB6.out.size)
    clear hb7
    by_cases h8:8<rl+hi
    ·have h8i:(8:Int)<((rl+hi:Nat):Int):=by omega
     have HN:Hid (R=(3,t)):=by
      have:=HR7.out
      rw [if_pos h8] at this
      exact this
     clear h8
     go_wp2_with fail
     go_ret
     rw [HN.out]
     exact HS.out _ _ HB7.out
    have h8i:¬ (8:Int)<((rl+hi:Nat):Int):=by omega
    have HN:Hid (R=(0,Tr.put (Tr.cut t d0 x0) d x i)):=by
     have:=HR7.out
     rw [if_neg h8] at this
     exact this
    have HDROP:=Lib.hid ((Went.start H.out HB7.out).drop HG.out.ris HFD0.out HPD0.out x0 (by have:=HNL0.out;omega))
    clear h8
    go_wp2_with fail
    refine HDROP.out.mono ?_
    rintro e w8 ⟨rfl,hW8⟩
    have hfid:∀ e:En,({ e with names:=Tr.del e.names x0 }:En).nd.id=e.nd.id:=fun _=>rfl
    have hr8:Tr.Ris (Tr.cut t d0 x0):=Tr.upd_ris HG.out.ris hfid
    have hany:∀ (j:Int) (e0:En),Tr.find t j=some e0→∃ e5,Tr.find (Tr.cut t d0 x0) j=some e5∧e5.nd.id=j∧e5.names.length≤e0.names.length:=fun j e0 hj=>by
     unfold Tr.cut
     rw [Tr.find_upd hfid,hj]
     refine ⟨_,rfl,?_⟩
     have:=(Tr.find_some hj).2
     dsimp only
     split
     ·exact ⟨this,List.length_filter_le _ _⟩
     ·exact ⟨this,Nat.le_refl _⟩
    have hptr:∀ j,ptrOf gs (Tr.cut t d0 x0) j=ptrOf gs t j:=fun j=>by unfold Tr.cut;rw [ptrOf_upd hfid]
    obtain ⟨e8,hf8,hid8,_⟩:=hany i ef HEF.out
    obtain ⟨c8,_⟩:=hW8.links hr8 hf8 ((hptr i).trans HPF.out)
    rw [hid8] at c8
    obtain ⟨e9,hf9,hid9,hn9⟩:=hany d en HFD.out
    have HPUT:=Lib.hid (hW8.put hr8 hf9 ((hptr d).trans HPD.out) x i (by have:=HNL.out;omega) HXL.out)
    clear hW8 hfid hr8 hany hptr hf8 hid8 hf9 hid9 hn9
    go_wp2_with fail
    refine HPUT.out.mono ?_
    rintro e w9 ⟨rfl,hW9⟩
    have HW9:=Lib.hid hW9
    clear hW9
    go_wp2_with fail
    go_ret
    rw [HN.out]
    exact HW9.out.done _
 ·have hk2:(ek==2)=false:=by rw [beq_eq_false_iff_ne];exact h2
  clear h2
  go_wp2_with fail
  refine (HID.out w4 HB4.out).1.mono ?_
  rintro e w6 ⟨rfl,hb6⟩
  have HB6:Hid (Below w.heap.size w w6):=HB4.out.trans (hb6.mono HB4.out.size)
  have c0:=(HID.out w6 HB6.out).2
  clear hb6 c1
  unfold told
  cases o with
  | some k =>
    by_cases hki:k=i
    ·subst hki
     have HN:Hid (R=(0,t)):=by
      have:=HR6.out
      rw [if_pos rfl] at this
      exact this
     go_wp2_with fail
     go_ret
     rw [HN.out]
     exact HS.out _ _ HB6.out
    ·have hkb:(k==i)=false:=by rw [beq_eq_false_iff_ne];exact hki
     have HN:Hid (R=(21,t)):=by
      have:=HR6.out
      rw [if_neg (fun e=>hki (Option.some.inj e)),if_pos (show (some k).isSome=true from rfl)] at this
      exact this
     clear hki
     go_wp2_with fail
     go_ret
     rw [HN.out]
     exact HS.out _ _ HB6.out
  | none =>
    have HR7:Hid (R=if 8<r.length+Tr.high t 64 i then (3,t) else (0,Tr.put (Tr.cut t d0 x0) d x i)):=by
     have:=HR6.out
     rw [if_neg (by simp),if_neg (by simp)] at this
     exact this
    have HHJ:=Lib.hid (HHI.out w6 HB6.out)
    have hhl:=Tr.high_le t 64 i
    obtain ⟨hi,hhi⟩:∃ hi,hi=Tr.high t 64 i:=⟨_,rfl⟩
    rw [← hhi] at HR7 HHJ hhl
    obtain ⟨rl,hrl2⟩:∃ rl,rl=r.length:=⟨_,rfl⟩
    rw [← hrl2] at HR7 hrl
    have wl:IntKind.i64.wrap ((r.length:Int)+(hi:Int))=((rl+hi:Nat):Int):=by rw [IntKind.wrap_i64,← hrl2];omega
    clear HHI hhi c0
    go_wp2_with fail
    refine HHJ.out.mono ?_
    rintro e w7 ⟨rfl,hb7⟩
    have HB7:Hid (Below w.heap.size w w7):=HB6.out.trans (hb7.mono HB6.out.size)
    clear hb7
    by_cases h8:8<rl+hi
    ·have h8i:(8:Int)<((rl+hi:Nat):Int):=by omega
     have HN:Hid (R=(3,t)):=by
      have:=HR7.out
      rw [if_pos h8] at this
      exact this
     clear h8
     go_wp2_with fail
     go_ret
     rw [HN.out]
     exact HS.out _ _ HB7.out
    have h8i:¬ (8:Int)<((rl+hi:Nat):Int):=by omega
    have HN:Hid (R=(0,Tr.put (Tr.cut t d0 x0) d x i)):=by
     have:=HR7.out
     rw [if_neg h8] at this
     exact this
    have HDROP:=Lib.hid ((Went.start H.out HB7.out).drop HG.out.ris HFD0.out HPD0.out x0 (by have:=HNL0.out;omega))
    clear h8
    go_wp2_with fail
    refine HDROP.out.mono ?_
    rintro e w8 ⟨rfl,hW8⟩
    have hfid:∀ e:En,({ e with names:=Tr.del e.names x0 }:En).nd.id=e.nd.id:=fun _=>rfl
    have hr8:Tr.Ris (Tr.cut t d0 x0):=Tr.upd_ris HG.out.ris hfid
    have hany:∀ (j:Int) (e0:En),Tr.find t j=some e0→∃ e5,Tr.find (Tr.cut t d0 x0) j=some e5∧e5.nd.id=j∧e5.names.length≤e0.names.length:=fun j e0 hj=>by
     unfold Tr.cut
     rw [Tr.find_upd hfid,hj]
     refine ⟨_,rfl,?_⟩
     have:=(Tr.find_some hj).2
     dsimp only
     split
     ·exact ⟨this,List.length_filter_le _ _⟩
     ·exact ⟨this,Nat.le_refl _⟩
    have hptr:∀ j,ptrOf gs (Tr.cut t d0 x0) j=ptrOf gs t j:=fun j=>by unfold Tr.cut;rw [ptrOf_upd hfid]
    obtain ⟨e8,hf8,hid8,_⟩:=hany i ef HEF.out
    obtain ⟨c8,_⟩:=hW8.links hr8 hf8 ((hptr i).trans HPF.out)
    rw [hid8] at c8
    obtain ⟨e9,hf9,hid9,hn9⟩:=hany d en HFD.out
    have HPUT:=Lib.hid (hW8.put hr8 hf9 ((hptr d).trans HPD.out) x i (by have:=HNL.out;omega) HXL.out)
    clear hW8 hfid hr8 hany hptr hf8 hid8 hf9 hid9 hn9
    go_wp2_with fail
    refine HPUT.out.mono ?_
    rintro e w9 ⟨rfl,hW9⟩
    have HW9:=Lib.hid hW9
    clear hW9
    go_wp2_with fail
    go_ret
    rw [HN.out]
    exact HW9.out.done _
end Tm
end Go.Proofs.YtbnpgakmhhfjkaaGreatDoor
namespace Go.Proofs.YtbnpgakmhhfjkaaGreatDoor
open Go.RowKit Rc
open Tr (Nm En T)
namespace Tm
variable {v:Value} {w0 w:World} {t:T} {B:Nat→Prop}
end Tm
end Go.Proofs.YtbnpgakmhhfjkaaGreatDoor
namespace Go.Proofs.YtbnpgakmhhfjkaaGreatDoor
open Go.RowKit Rc
open Tr (Nm En T)
open Tm (tobj)
namespace Sn
def SAt (v:Value) (s:Snaps) (S:Nat→Prop) (w:World):Prop:=∃ p av lv els D,v=.pointer (some ⟨p,0,none⟩)∧SnIn p av lv els D s w∧S=SnS p av D
def sobj:Ob.Obj Snaps where
 At:=SAt
 keep:=by
  rintro v s S w w' ⟨p,av,lv,els,D,rfl,h,rfl⟩ hs hb
  exact ⟨p,av,lv,els,D,rfl,h.keep hs hb,rfl⟩
 lt:=by
  rintro v s S w ⟨p,av,lv,els,D,rfl,h,rfl⟩ b hb
  exact h.lt hb
 ptr:=by
  rintro v s S w ⟨p,av,lv,els,D,rfl,h,rfl⟩
  exact ⟨_,rfl⟩
variable {v v2:Value} {s s':Snaps} {t t':T} {B1 B2:Nat→Prop} {w w':World}
theorem STurn.turns {p:Nat} {x:Value} {e:Ending} (h:STurn p s' x B1 w e w'):Ob.Turns sobj (.pointer (some ⟨p,0,none⟩)) s' x B1 w e w':=by
 obtain ⟨he,av,lv,els,D,h1,h2,h3⟩:=h
 exact ⟨he,_,⟨p,av,lv,els,D,rfl,h1,rfl⟩,h2,h3⟩
theorem so_new (w:World):Calls Tryz.prog 37 #[] w fun e w'=>∃ p B,e=.returned (.pointer (some ⟨p,0,none⟩))∧sobj.At (.pointer (some ⟨p,0,none⟩)) new B w'∧Below w.heap.size w w'∧∀ b,B b→w.heap.size≤b:=by
 refine (snew_any w).mono ?_
 rintro e w' ⟨p,he,h1,h2,h3⟩
 exact ⟨p,_,he,⟨p,_,_,_,_,rfl,h1,rfl⟩,h2,fun b hb=>by
  rcases hb with rfl|hb|hb
  ·exact h3
  ·cases hb
  ·exact hb.elim⟩
theorem so_take (h:sobj.At v s B1 w) (hO:Ok s) (hn:s.next<1000000000000000) (hT:tobj.At v2 t B2 w) (hG:Tr.Good t) (hS:Tr.Slim t) (hK:KAt w) :
    Calls Tryz.prog 34 #[v,v2] w (Ob.Turns sobj v (take s t).2 (.tuple #[.int .i64 (take s t).1.1,.int .i64 ((take s t).1.2:Nat)]) B1 w):=by
 obtain ⟨p,av,lv,els,D,rfl,h,rfl⟩:=h
 obtain ⟨q,qv,gs,S,rfl,hT,rfl⟩:=hT
 exact (take_any h hO hn hT hG hS hK).mono fun e w' h=>h.turns
theorem so_forget (h:sobj.At v s B1 w) (hO:Ok s) (id:Int) (now:Nat) :
    Calls Tryz.prog 52 #[v,.int .i64 id,.int .u64 (now:Nat)] w (Ob.Turns sobj v (forget s id now).2 (.int .i64 ((forget s id now).1:Nat)) B1 w):=by
 obtain ⟨p,av,lv,els,D,rfl,h,rfl⟩:=h
 exact (forget_any h hO id now).mono fun e w' h=>h.turns
variable {pw:Nat} {v1 px py:Value} {w0:World}
end Sn
end Go.Proofs.YtbnpgakmhhfjkaaGreatDoor
namespace Go.Proofs.YtbnpgakmhhfjkaaGreatDoor
open Go.RowKit Rc
open Tr (Nm En T)
open Tm (tobj)
open Sn (sobj)
open St (alone)
namespace Sm
def fdV (tv:Value):St.Fd→Value→List Value
 | .free,_=>[.pointer none,.int .i64 0,.bool false]
 | .w i,_=>[tv,.int .i64 i,.bool true]
 | .r _,q=>[q,.int .i64 1,.bool false]
def fdCells (tv:Value):List St.Fd→List Value→List Value
 | f :: l,q :: m=>fdV tv f q++fdCells tv l m
 | _,_=>[]
theorem fdV_len (tv:Value) (f:St.Fd) (q:Value):(fdV tv f q).length=3:=by cases f <;> rfl
theorem fdCells_len (tv:Value):∀ (l:List St.Fd) (m:List Value),m.length=l.length→(fdCells tv l m).length=l.length*3
 | [],[],_=>rfl
 | [],_ :: _,h=>by simp at h
 | _ :: _,[],h=>by simp at h
 | f :: l,q :: m,h=>by
   have:=fdCells_len tv l m (by simpa using h)
   simp only [fdCells,List.length_append,fdV_len,List.length_cons,this]
   omega
theorem fdCells_get (tv:Value):∀ {l:List St.Fd} {m:List Value} {k:Nat} {f:St.Fd} {q:Value},l[k]?=some f→m[k]?=some q→∀ j,j<3→(fdCells tv l m)[k*3+j]?=(fdV tv f q)[j]?
 | [],_,k,_,_,h,_,_,_=>by simp at h
 | _ :: _,[],k,_,_,_,h,_,_=>by simp at h
 | a :: l,b :: m,0,f,q,h,k,j,hj=>by
   obtain rfl:a=f:=by simpa using h
   obtain rfl:b=q:=by simpa using k
   simp only [fdCells]
   rw [Nat.zero_mul,Nat.zero_add,List.getElem?_append_left (by rw [fdV_len];exact hj)]
 | a :: l,b :: m,n+1,f,q,h,k,j,hj=>by
   have:=fdCells_get tv (l:=l) (m:=m) (k:=n) (by simpa using h) (by simpa using k) j hj
   simp only [fdCells]
   rw [List.getElem?_append_right (by rw [fdV_len];omega),fdV_len,← this]
   congr 1
   omega
theorem fdCells_set (tv:Value):∀ (l:List St.Fd) (m:List Value) (k:Nat) (f:St.Fd) (q:Value),m.length=l.length→k<l.length→fdCells tv (l.set k f) (m.set k q)=(fdCells tv l m).take (k*3)++fdV tv f q++(fdCells tv l m).drop (k*3+3)
 | [],_,k,_,_,_,h=>by simp at h
 | _ :: _,[],_,_,_,h,_=>by simp at h
 | a :: l,b :: m,0,f,q,_,_=>by
   simp only [List.set_cons_zero,fdCells,Nat.zero_mul,List.take_zero,List.nil_append,Nat.zero_add]
   rw [List.drop_append,fdV_len,List.drop_of_length_le (by rw [fdV_len];omega)]
   simp
 | a :: l,b :: m,k+1,f,q,h,hk=>by
   have ih:=fdCells_set tv l m k f q (by simpa using h) (by simpa using hk)
   simp only [List.set_cons_succ,fdCells]
   rw [ih,List.take_append,List.drop_append,List.take_of_length_le (l:=fdV tv a b) (by rw [fdV_len];omega),List.drop_of_length_le (l:=fdV tv a b) (by rw [fdV_len];omega),fdV_len,show (k+1)*3-3=k*3 by omega,show (k+1)*3+3-3=k*3+3 by omega]
   simp
structure StIn (p:Nat) (tv sv:Value) (qs:List Value) (B1 B2 D:Nat→Prop) (s:St.State) (w:World):Prop where
 box:Blk w p 74 (tv :: sv :: .int .u64 (s.now:Nat) :: fdCells tv s.fds qs)
 tr:tobj.At tv s.tree B1 w
 sn:sobj.At sv s.snaps B2 w
 len:qs.length=s.fds.length
 rd:∀ (k:Nat) (b:Bs) (q:Value),s.fds[k]?=some (St.Fd.r b)→qs[k]?=some q→∃ Bk,tobj.At q (alone b) Bk w∧∀ x,Bk x→D x
 low:∀ x,D x→x<w.heap.size∧x≠p∧¬ B1 x∧¬ B2 x
 sep:∀ x,B1 x→¬ B2 x
 out:¬ B1 p∧¬ B2 p
def StS (p:Nat) (B1 B2 D:Nat→Prop):Nat→Prop:=fun x=>x=p∨B1 x∨B2 x∨D x
variable {p:Nat} {tv sv:Value} {qs:List Value} {B1 B2 D:Nat→Prop} {s:St.State} {w w':World}
theorem StIn.lt (h:StIn p tv sv qs B1 B2 D s w) {b:Nat} (hb:StS p B1 B2 D b):b<w.heap.size:=by
 rcases hb with rfl|hb|hb|hb
 ·exact h.box.lt
 ·exact tobj.lt h.tr b hb
 ·exact sobj.lt h.sn b hb
 ·exact (h.low b hb).1
theorem StIn.keep (h:StIn p tv sv qs B1 B2 D s w) (hs:w.heap.size≤w'.heap.size) (hb:∀ b,StS p B1 B2 D b→w'.heap[b]?=w.heap[b]?):StIn p tv sv qs B1 B2 D s w' :=
 ⟨(hb p (.inl rfl)).trans h.box,tobj.keep h.tr hs fun b h1=>hb b (.inr (.inl h1)),sobj.keep h.sn hs fun b h1=>hb b (.inr (.inr (.inl h1))),h.len,fun k b q hk hq=>by
  obtain ⟨Bk,h1,h2⟩:=h.rd k b q hk hq
  exact ⟨Bk,tobj.keep h1 hs fun b h3=>hb b (.inr (.inr (.inr (h2 b h3)))),h2⟩,fun x hx=>⟨Nat.lt_of_lt_of_le (h.low x hx).1 hs,(h.low x hx).2⟩,h.sep,h.out⟩
theorem StIn.below (h:StIn p tv sv qs B1 B2 D s w) (hb:Below w.heap.size w w'):StIn p tv sv qs B1 B2 D s w':=h.keep hb.size fun b hb1=>hb.block b (h.lt hb1)
def StAt (v:Value) (s:St.State) (S:Nat→Prop) (w:World):Prop:=∃ p tv sv qs B1 B2 D,v=.pointer (some ⟨p,0,none⟩)∧StIn p tv sv qs B1 B2 D s w∧S=StS p B1 B2 D
def stobj:Ob.Obj St.State where
 At:=StAt
 keep:=by
  rintro v s S w w' ⟨p,tv,sv,qs,B1,B2,D,rfl,h,rfl⟩ hs hb
  exact ⟨p,tv,sv,qs,B1,B2,D,rfl,h.keep hs hb,rfl⟩
 lt:=by
  rintro v s S w ⟨p,tv,sv,qs,B1,B2,D,rfl,h,rfl⟩ b hb
  exact h.lt hb
 ptr:=by
  rintro v s S w ⟨p,tv,sv,qs,B1,B2,D,rfl,h,rfl⟩
  exact ⟨_,rfl⟩
structure Nw (p:Nat) (tv sv:Value) (qs:List Value) (w0:World) (X:Nat→Prop) (B1 B2 D:Nat→Prop) (s:St.State) (w:World):Prop where
 in_:StIn p tv sv qs B1 B2 D s w
 mod:Mod w0 w X
 sub:∀ b,StS p B1 B2 D b→X b∨w0.heap.size≤b
variable {w0:World} {X:Nat→Prop}
theorem Nw.start (h:StIn p tv sv qs B1 B2 D s w):Nw p tv sv qs w (StS p B1 B2 D) B1 B2 D s w:=⟨h,Mod.refl _ _,fun _ h=>.inl h⟩
theorem Nw.later (h:Nw p tv sv qs w0 X B1 B2 D s w) (hb:Below w.heap.size w w'):Nw p tv sv qs w0 X B1 B2 D s w' :=
 ⟨h.in_.below hb,Ob.mod_more h.mod (Mod.of_below hb (fun _=>False)) fun _ h=>h.elim,h.sub⟩
theorem Nw.done (h:Nw p tv sv qs w0 X B1 B2 D s w) (x:Value):Ob.Turns stobj (.pointer (some ⟨p,0,none⟩)) s x X w0 (.returned x) w :=
 ⟨rfl,_,⟨p,tv,sv,qs,B1,B2,D,rfl,h.in_,rfl⟩,h.mod,h.sub⟩
theorem Nw.turnT {t':T} {x:Value} {e:Ending} (h:Nw p tv sv qs w0 X B1 B2 D s w) (ht:Ob.Turns tobj tv t' x B1 w e w'):e=.returned x∧∃ B1',Nw p tv sv qs w0 X B1' B2 D { s with tree:=t' } w'∧∀ b,StS p B1' B2 D b→StS p B1 B2 D b∨w.heap.size≤b:=by
 obtain ⟨he,B',h1,h2,h3⟩:=ht
 have hi:=h.in_
 have hnew:∀ x,x<w.heap.size→¬ B1 x→¬ B' x:=fun x hx hn h9=>(h3 x h9).elim hn (fun h4=>by omega)
 refine ⟨he,B',⟨⟨(h2.block p hi.box.lt hi.out.1).trans hi.box,h1,sobj.keep hi.sn h2.size (fun b hb=>h2.block b (sobj.lt hi.sn b hb) fun h9=>hi.sep b h9 hb),hi.len,fun k b q hk hq=>?_,fun x hx=>?_,fun x hx h9=>?_,⟨hnew p hi.box.lt hi.out.1,hi.out.2⟩⟩,Ob.mod_more h.mod h2 fun b hb=>h.sub b (.inr (.inl hb)),fun b hb=>?_⟩,fun b hb=>?_⟩
 ·obtain ⟨Bk,h4,h5⟩:=hi.rd k b q hk hq
  exact ⟨Bk,tobj.keep h4 h2.size (fun b hb=>h2.block b (hi.low b (h5 b hb)).1 (hi.low b (h5 b hb)).2.2.1),h5⟩
 ·have:=hi.low x hx
  exact ⟨Nat.lt_of_lt_of_le this.1 h2.size,this.2.1,hnew x this.1 this.2.2.1,this.2.2.2⟩
 ·rcases h3 x hx with h4|h4
  ·exact hi.sep x h4 h9
  ·have:=sobj.lt hi.sn x h9;omega
 ·rcases hb with hb|hb|hb|hb
  ·exact h.sub b (.inl hb)
  ·exact (h3 b hb).elim (fun h4=>h.sub b (.inr (.inl h4))) (fun h4=>.inr (Nat.le_trans h.mod.size h4))
  ·exact h.sub b (.inr (.inr (.inl hb)))
  ·exact h.sub b (.inr (.inr (.inr hb)))
 ·rcases hb with hb|hb|hb|hb
  ·exact .inl (.inl hb)
  ·exact (h3 b hb).imp (fun h4=>.inr (.inl h4)) id
  ·exact .inl (.inr (.inr (.inl hb)))
  ·exact .inl (.inr (.inr (.inr hb)))
theorem Nw.turnS {l':Sn.Snaps} {x:Value} {e:Ending} (h:Nw p tv sv qs w0 X B1 B2 D s w) (ht:Ob.Turns sobj sv l' x B2 w e w'):e=.returned x∧∃ B2',Nw p tv sv qs w0 X B1 B2' D { s with snaps:=l' } w'∧∀ b,StS p B1 B2' D b→StS p B1 B2 D b∨w.heap.size≤b:=by
 obtain ⟨he,B',h1,h2,h3⟩:=ht
 have hi:=h.in_
 have hnew:∀ x,x<w.heap.size→¬ B2 x→¬ B' x:=fun x hx hn h9=>(h3 x h9).elim hn (fun h4=>by omega)
 refine ⟨he,B',⟨⟨(h2.block p hi.box.lt hi.out.2).trans hi.box,tobj.keep hi.tr h2.size (fun b hb=>h2.block b (tobj.lt hi.tr b hb) fun h9=>hi.sep b hb h9),h1,hi.len,fun k b q hk hq=>?_,fun x hx=>?_,fun x hx h9=>?_,⟨hi.out.1,hnew p hi.box.lt hi.out.2⟩⟩,Ob.mod_more h.mod h2 fun b hb=>h.sub b (.inr (.inr (.inl hb))),fun b hb=>?_⟩,fun b hb=>?_⟩
 ·obtain ⟨Bk,h4,h5⟩:=hi.rd k b q hk hq
  exact ⟨Bk,tobj.keep h4 h2.size (fun b hb=>h2.block b (hi.low b (h5 b hb)).1 (hi.low b (h5 b hb)).2.2.2),h5⟩
 ·have:=hi.low x hx
  exact ⟨Nat.lt_of_lt_of_le this.1 h2.size,this.2.1,this.2.2.1,hnew x this.1 this.2.2.2⟩
 ·rcases h3 x h9 with h4|h4
  ·exact hi.sep x hx h4
  ·have:=tobj.lt hi.tr x hx;omega
 ·rcases hb with hb|hb|hb|hb
  ·exact h.sub b (.inl hb)
  ·exact h.sub b (.inr (.inl hb))
  ·exact (h3 b hb).elim (fun h4=>h.sub b (.inr (.inr (.inl h4)))) (fun h4=>.inr (Nat.le_trans h.mod.size h4))
  ·exact h.sub b (.inr (.inr (.inr hb)))
 ·rcases hb with hb|hb|hb|hb
  ·exact .inl (.inl hb)
  ·exact .inl (.inr (.inl hb))
  ·exact (h3 b hb).imp (fun h4=>.inr (.inr (.inl h4))) id
  ·exact .inl (.inr (.inr (.inr hb)))
theorem Nw.poke {g:Nat} (h:Nw p tv sv qs w0 X B1 B2 D s w) (hm:Mod w w' (fun b=>b=g)) (hg:¬ StS p B1 B2 D g) (h0:w0.heap.size≤g):Nw p tv sv qs w0 X B1 B2 D s w' :=
 ⟨h.in_.keep hm.size fun b hb=>hm.block b (h.in_.lt hb) fun e=>hg (e ▸ hb),Ob.mod_more h.mod hm fun b hb=>.inr (hb ▸ h0),h.sub⟩
theorem Nw.box {now':Nat} {fds':List St.Fd} {qs':List Value} {D':Nat→Prop} (h:Nw p tv sv qs w0 X B1 B2 D s w) (hm:Mod w w' (fun b=>b=p))
    (hbox:Blk w' p 74 (tv :: sv :: .int .u64 (now':Nat) :: fdCells tv fds' qs')) (hl:qs'.length=fds'.length)
    (hrd:∀ (k:Nat) (b:Bs) (q:Value),fds'[k]?=some (St.Fd.r b)→qs'[k]?=some q→∃ Bk,tobj.At q (alone b) Bk w'∧∀ x,Bk x→D' x)
    (hD:∀ x,D' x→x<w.heap.size∧x≠p∧¬ B1 x∧¬ B2 x) (hsub:∀ x,D' x→X x∨w0.heap.size≤x):Nw p tv sv qs' w0 X B1 B2 D' ⟨s.tree,s.snaps,now',fds'⟩ w':=by
 have hi:=h.in_
 refine ⟨⟨hbox,tobj.keep hi.tr hm.size (fun b hb=>hm.block b (tobj.lt hi.tr b hb) (fun h9=>hi.out.1 (h9 ▸ hb))),sobj.keep hi.sn hm.size (fun b hb=>hm.block b (sobj.lt hi.sn b hb) (fun h9=>hi.out.2 (h9 ▸ hb))),hl,hrd,fun x hx=>⟨Nat.lt_of_lt_of_le (hD x hx).1 hm.size,(hD x hx).2⟩,hi.sep,hi.out⟩,Ob.mod_more h.mod hm fun b hb=>h.sub b (.inl hb),fun b hb=>?_⟩
 rcases hb with hb|hb|hb|hb
 ·exact h.sub b (.inl hb)
 ·exact h.sub b (.inr (.inl hb))
 ·exact h.sub b (.inr (.inr (.inl hb)))
 ·exact hsub b hb
theorem Nw.now {now':Nat} (h:Nw p tv sv qs w0 X B1 B2 D s w):Nw p tv sv qs w0 X B1 B2 D { s with now:=now' } (w.setCell ⟨p,2,none⟩ (.int .u64 (now':Nat))):=by
 have hi:=h.in_
 have hm:Mod w (w.setCell ⟨p,2,none⟩ (.int .u64 (now':Nat))) (fun b=>b=p):=by
  have:=(Keeps.refl w p).setCell 2 (.int .u64 (now':Nat))
  exact ⟨this.os,this.tape,this.output,this.size,fun k hk hn=>this.block k hk (fun e=>hn (by injection e))⟩
 exact h.box hm (hi.box.set_ 2 _) hi.len (fun k b q hk hq=>by
  obtain ⟨Bk,h4,h5⟩:=hi.rd k b q hk hq
  exact ⟨Bk,tobj.keep h4 hm.size (fun x hx=>hm.block x (hi.low x (h5 x hx)).1 (hi.low x (h5 x hx)).2.1),h5⟩) hi.low fun x hx=>h.sub x (.inr (.inr (.inr hx)))
theorem Nw.fd {k:Nat} {f:St.Fd} {q:Value} {Bq:Nat→Prop} (h:Nw p tv sv qs w0 X B1 B2 D s w) (hk:k<s.fds.length) (hm:Mod w w' (fun b=>b=p))
    (hbox:Blk w' p 74 (tv :: sv :: .int .u64 (s.now:Nat) :: ((fdCells tv s.fds qs).take (k*3)++fdV tv f q++(fdCells tv s.fds qs).drop (k*3+3))))
    (hq:∀ b,f=.r b→tobj.At q (alone b) Bq w) (hB:∀ x,Bq x→w0.heap.size≤x∧x≠p∧¬ B1 x∧¬ B2 x∧x<w.heap.size):Nw p tv sv (qs.set k q) w0 X B1 B2 (fun x=>D x∨Bq x) { s with fds:=s.fds.set k f } w':=by
 have hi:=h.in_
 refine h.box hm (by rw [fdCells_set tv _ _ _ _ _ hi.len hk];exact hbox) (by simpa using hi.len) (fun j b q' hj hq'=>?_) (fun x hx=>?_) fun x hx=>?_
 ·by_cases hjk:k=j
  ·subst hjk
   rw [List.getElem?_set_self hk] at hj
   rw [List.getElem?_set_self (by rw [hi.len];exact hk)] at hq'
   cases hj
   cases hq'
   exact ⟨Bq,tobj.keep (hq b rfl) hm.size (fun x hx=>hm.block x (hB x hx).2.2.2.2 (hB x hx).2.1),fun x hx=>.inr hx⟩
  ·rw [List.getElem?_set_ne hjk] at hj
   rw [List.getElem?_set_ne hjk] at hq'
   obtain ⟨Bk,h4,h5⟩:=hi.rd j b q' hj hq'
   exact ⟨Bk,tobj.keep h4 hm.size (fun x hx=>hm.block x (hi.low x (h5 x hx)).1 (hi.low x (h5 x hx)).2.1),fun x hx=>.inl (h5 x hx)⟩
 ·rcases hx with hx|hx
  ·exact hi.low x hx
  ·exact ⟨(hB x hx).2.2.2.2,(hB x hx).2.1,(hB x hx).2.2.1,(hB x hx).2.2.2.1⟩
 ·rcases hx with hx|hx
  ·exact h.sub x (.inr (.inr (.inr hx)))
  ·exact .inr (hB x hx).1
end Sm
end Go.Proofs.YtbnpgakmhhfjkaaGreatDoor
namespace Go.Proofs.YtbnpgakmhhfjkaaGreatDoor
open Go.RowKit
namespace Sm
structure Way (w:World) (A:Option Addr) (q:List Bs) (cap:Nat):Prop where
 rd:RdS w A q
 cap:q.length≤cap
 few:q.length≤1000000
 short:∀ s ∈ q,s.length≤1000000
theorem Way.below {w w':World} {A:Option Addr} {q:List Bs} {cap:Nat} (h:Way w A q cap) (hb:Below w.heap.size w w'):Way w' A q cap:=⟨h.rd.below hb,h.cap,h.few,h.short⟩
end Sm
end Go.Proofs.YtbnpgakmhhfjkaaGreatDoor
namespace Go.Proofs.YtbnpgakmhhfjkaaGreatDoor
open Go.RowKit Rc
open Tr (Nm En T)
open Tm
namespace Sm
variable {v:Value} {w:World} {t:T} {B:Nat→Prop}
theorem t_make (h:tobj.At v t B w) (hG:Tr.Good t) {A:Option Addr} {q:List Bs} {cap:Nat} (kind:Int) (hq:Way w A q cap) :
    Calls Tryz.prog 32 #[v,.slice A q.length cap,.int .i64 kind] w (Ob.Turns tobj v (Tr.make t q kind).2 (.tuple #[.int .i64 (Tr.make t q kind).1.1,.int .i64 ((Tr.make t q kind).1.2:Nat)]) B w):=by
 obtain ⟨p,av,gs,S,rfl,hT,rfl⟩:=h
 exact make_any hT hG A q cap kind hq.rd hq.cap hq.few hq.short
theorem t_link (h:tobj.At v t B w) (hG:Tr.Good t) {A A2:Option Addr} {q r:List Bs} {cap cap2:Nat} (hq:Way w A q cap) (hr:Way w A2 r cap2) :
    Calls Tryz.prog 44 #[v,.slice A q.length cap,.slice A2 r.length cap2] w (Ob.Turns tobj v (Tr.link t q r).2 (.int .i64 ((Tr.link t q r).1:Nat)) B w):=by
 obtain ⟨p,av,gs,S,rfl,hT,rfl⟩:=h
 exact link_any hT hG A A2 q r cap cap2 hq.rd hq.cap hq.few hq.short hr.rd hr.cap hr.few hr.short
theorem t_unlink (h:tobj.At v t B w) (hG:Tr.Good t) {A:Option Addr} {q:List Bs} {cap:Nat} (hq:Way w A q cap) :
    Calls Tryz.prog 103 #[v,.slice A q.length cap] w (Ob.Turns tobj v (Tr.unlink t q).2 (.int .i64 ((Tr.unlink t q).1:Nat)) B w):=by
 obtain ⟨p,av,gs,S,rfl,hT,rfl⟩:=h
 exact unlink_any hT hG A q cap hq.rd hq.cap hq.few hq.short
theorem t_rmdir (h:tobj.At v t B w) (hG:Tr.Good t) {A:Option Addr} {q:List Bs} {cap:Nat} (hq:Way w A q cap) :
    Calls Tryz.prog 46 #[v,.slice A q.length cap] w (Ob.Turns tobj v (Tr.rmdir t q).2 (.int .i64 ((Tr.rmdir t q).1:Nat)) B w):=by
 obtain ⟨p,av,gs,S,rfl,hT,rfl⟩:=h
 exact rmdir_any hT hG A q cap hq.rd hq.cap hq.few hq.short
theorem t_rename (h:tobj.At v t B w) (hG:Tr.Good t) {A A2:Option Addr} {q r:List Bs} {cap cap2:Nat} (hq:Way w A q cap) (hr:Way w A2 r cap2) :
    Calls Tryz.prog 47 #[v,.slice A q.length cap,.slice A2 r.length cap2] w (Ob.Turns tobj v (Tr.rename t q r).2 (.int .i64 ((Tr.rename t q r).1:Nat)) B w):=by
 obtain ⟨p,av,gs,S,rfl,hT,rfl⟩:=h
 exact rename_any hT hG A A2 q r cap cap2 hq.rd hq.cap hq.few hq.short hr.rd hr.cap hr.few hr.short
theorem t_append (h:tobj.At v t B w) (hG:Tr.Good t) (i:Int) (A:Option Addr) (b:Bs) (cap:Nat) (hr:Rd w A b) (hl:b.length≤1000000000) :
    Calls Tryz.prog 99 #[v,.int .i64 i,.slice A b.length cap] w (Ob.Turns tobj v (Tr.append t i b).2 (.int .i64 ((Tr.append t i b).1:Nat)) B w):=by
 obtain ⟨p,av,gs,S,rfl,hT,rfl⟩:=h
 exact append_any hT hG i A b cap hr hl
theorem t_seal (h:tobj.At v t B w) (hG:Tr.Good t) (i:Int) (u:Nat) (hu:u≤18446744073709551615) :
    Calls Tryz.prog 100 #[v,.int .i64 i,.int .u64 (u:Nat)] w (Ob.Turns tobj v (Tr.seal_ t i u).2 (.int .i64 ((Tr.seal_ t i u).1:Nat)) B w):=by
 obtain ⟨p,av,gs,S,rfl,hT,rfl⟩:=h
 exact seal_any hT hG i u hu
theorem t_keep (h:tobj.At v t B w) (hG:Tr.Good t) (i:Int) (u:Nat) (hu:u≤18446744073709551615) :
    Calls Tryz.prog 113 #[v,.int .i64 i,.int .u64 (u:Nat)] w (Ob.Turns tobj v (Tr.keep t i u).2 (.int .i64 ((Tr.keep t i u).1:Nat)) B w):=by
 obtain ⟨p,av,gs,S,rfl,hT,rfl⟩:=h
 exact keep_any hT hG i u hu
theorem t_look (h:tobj.At v t B w) (hG:Tr.Good t) {A:Option Addr} {q:List Bs} {cap:Nat} (hq:Way w A q cap) :
    Calls Tryz.prog 110 #[v,.slice A q.length cap] w fun e w'=>e=.returned (.tuple #[.int .i64 (Tr.look t q).1,.int .i64 ((Tr.look t q).2:Nat)])∧Below w.heap.size w w':=by
 obtain ⟨p,av,gs,S,rfl,hT,rfl⟩:=h
 exact look_any hT hG A q cap hq.rd hq.cap hq.few hq.short
theorem t_list (h:tobj.At v t B w) (hG:Tr.Good t) (i:Int) :
    Calls Tryz.prog 111 #[v,.int .i64 i] w (LAns (Tr.list t i).1 (Tr.list t i).2 w):=by
 obtain ⟨p,av,gs,S,rfl,hT,rfl⟩:=h
 exact list_any hT hG i
theorem t_read (h:tobj.At v t B w) (hG:Tr.Good t) (i a m:Int) (ha:-9223372036854775808≤a∧a≤9223372036854775807) (hm:-9223372036854775808≤m∧m≤9223372036854775807) :
    Calls Tryz.prog 22 #[v,.int .i64 i,.int .i64 a,.int .i64 m] w (RAns (Tr.read t i a m).1 (Tr.read t i a m).2 w):=by
 obtain ⟨p,av,gs,S,rfl,hT,rfl⟩:=h
 exact read_any hT hG i a m ha hm
theorem t_node (h:tobj.At v t B w) (hG:Tr.Good t) (i:Int) :
    Calls Tryz.prog 20 #[v,.int .i64 i] w fun e w'=>e=.returned (.tuple #[(Tr.node t i).1.val,.bool (Tr.node t i).2])∧Below w.heap.size w w':=by
 obtain ⟨p,av,gs,S,rfl,hT,rfl⟩:=h
 exact node_any hT hG i
theorem t_new (w:World):Calls Tryz.prog 36 #[] w fun e w'=>∃ p B,e=.returned (.pointer (some ⟨p,0,none⟩))∧tobj.At (.pointer (some ⟨p,0,none⟩)) Tr.new B w'∧Below w.heap.size w w'∧∀ b,B b→w.heap.size≤b:=by
 refine (Tm.new_any w).mono ?_
 rintro e w' ⟨p,av,gs,S,rfl,h,hb,hS⟩
 exact ⟨p,TrS p av S,rfl,h.at_,hb,hS⟩
end Sm
end Go.Proofs.YtbnpgakmhhfjkaaGreatDoor
namespace Go.Proofs.YtbnpgakmhhfjkaaGreatDoor
open Go.RowKit Rc
open Tr (Nm En T)
open Tm (tobj)
namespace Sm
set_option maxRecDepth 100000 in
theorem free_any (a:Option Addr) (i:Int) (b:Bool) (w:World):Calls Tryz.prog 75 #[.agg #[.pointer a,.int .i64 i,.bool b]] w fun e w'=>e=.returned (.bool a.isNone)∧Below w.heap.size w w':=by
 have HB:Hid (Below w.heap.size w (w.alloc (.cells #[.pointer a,.int .i64 i,.bool b] 71))):=below_new w _
 cases a with
 | none =>
   go_enter Tryz.func75,Tryz.ntmps75
   go_wp2_with fail
   go_ret
   exact ⟨rfl,HB.out⟩
 | some a =>
   go_enter Tryz.func75,Tryz.ntmps75
   go_wp2_with fail
   go_ret
   exact ⟨rfl,HB.out⟩
variable {v:Value} {t:T} {B:Nat→Prop} {w:World}
set_option maxHeartbeats 2000000 in
set_option maxRecDepth 100000 in
theorem look_any (h:tobj.At v t B w) (hG:Tr.Good t) {A:Option Addr} {q:List Bs} {cap:Nat} (hq:Way w A q cap) :
    Calls Tryz.prog 96 #[v,.slice A q.length cap] w fun e w'=>e=.returned (.tuple #[(St.lookN t q).1.val,.int .i64 ((St.lookN t q).2:Nat)])∧Below w.heap.size w w':=by
 obtain ⟨pp,rfl⟩:=tobj.ptr h
 obtain ⟨li,hli⟩:∃ li,li=(Tr.look t q).1:=⟨_,rfl⟩
 obtain ⟨lc,hlc⟩:∃ lc,lc=(Tr.look t q).2:=⟨_,rfl⟩
 have HQ:Hid (St.lookN t q=if lc≠0 then (Nd.zero,lc) else (Tr.ndOf t li,0)):=by show _=_;rw [hlc,hli];rfl
 have HL:Hid (∀ W,Below w.heap.size w W→Calls Tryz.prog 110 #[.pointer (some pp),.slice A q.length cap] W fun e w'=>e=.returned (.tuple #[.int .i64 li,.int .i64 (lc:Nat)])∧Below W.heap.size W w'):=fun W hW=>by
  rw [hli,hlc]
  exact t_look (tobj.keep h hW.size (fun b hb=>hW.block b (tobj.lt h b hb))) hG (hq.below hW)
 have HN:Hid (∀ W,Below w.heap.size w W→Calls Tryz.prog 20 #[.pointer (some pp),.int .i64 li] W fun e w'=>e=.returned (.tuple #[(Tr.node t li).1.val,.bool (Tr.node t li).2])∧Below W.heap.size W w'):=fun W hW =>
  t_node (tobj.keep h hW.size (fun b hb=>hW.block b (tobj.lt h b hb))) hG li
 obtain ⟨nd,hnd⟩:∃ nd,nd=(Tr.node t li).1:=⟨_,rfl⟩
 have HND:Hid (nd=Tr.ndOf t li):=hnd
 obtain ⟨ok,hok⟩:∃ ok,ok=(Tr.node t li).2:=⟨_,rfl⟩
 rw [← hnd,← hok] at HN
 obtain ⟨W0,hW0⟩:∃ W0,W0=w.alloc (.cells #[.int .i64 0,.int .i64 0,.int .i64 0,.int .i64 0,.int .u64 0,.bool false] 31):=⟨_,rfl⟩
 obtain ⟨g,hg⟩:∃ g,g=w.heap.size:=⟨_,rfl⟩
 have HZ0:Hid (Blk W0 g 31 [.int .i64 0,.int .i64 0,.int .i64 0,.int .i64 0,.int .u64 0,.bool false]):=by show Blk _ _ _ _;rw [hW0,hg];exact Blk.new w _ _
 have HB0:Hid (Below w.heap.size w W0):=by show Below _ _ _;rw [hW0];exact below_new w _
 have HGG:Hid (g=w.heap.size):=hg
 obtain ⟨n1,n2,n3,n4,n5,n6⟩:=nd
 have HN2:Hid (∀ W,Below w.heap.size w W→Calls Tryz.prog 20 #[.pointer (some pp),.int .i64 li] W fun e w'=>e=.returned (.tuple #[.agg #[.int .i64 n1,.int .i64 n2,.int .i64 n3,.int .i64 n4,.int .u64 (n5:Nat),.bool n6],.bool ok])∧Below W.heap.size W w'):=HN.out
 clear h hG hq hli hlc hnd hok HN
 go_enter Tryz.func96,Tryz.ntmps96
 go_upto_region 1 with (fail)
 rw [← hW0,← hg]
 clear hW0 hg
 go_wp2_with fail
 refine (HL.out _ HB0.out).mono ?_
 rintro e w1 ⟨rfl,hb1⟩
 have HB1:Hid (Below w.heap.size w w1):=HB0.out.trans (hb1.mono HB0.out.size)
 have HZ1:Hid (Blk w1 g 31 [.int .i64 0,.int .i64 0,.int .i64 0,.int .i64 0,.int .u64 0,.bool false]):=HZ0.out.below hb1 HZ0.out.lt
 clear hb1 HB0 HZ0 HL
 by_cases hc:lc=0
 ·subst hc
  have HQ2:Hid (St.lookN t q=(⟨n1,n2,n3,n4,n5,n6⟩,0)):=by show _=_;rw [HQ.out,HND.out];rfl
  clear HQ
  go_wp2_with fail
  refine (HN2.out _ HB1.out).mono ?_
  rintro e w2 ⟨rfl,hb2⟩
  have HB2:Hid (Below w.heap.size w w2):=HB1.out.trans (hb2.mono HB1.out.size)
  have HZ2:Hid (Blk w2 g 31 [.int .i64 0,.int .i64 0,.int .i64 0,.int .i64 0,.int .u64 0,.bool false]):=HZ1.out.below hb2 HZ1.out.lt
  clear hb2 HB1 HZ1 HN2
  have z0:=HZ2.out.cell 0
  have z1:=HZ2.out.cell 1
  have z2:=HZ2.out.cell 2
  have z3:=HZ2.out.cell 3
  have z4:=HZ2.out.cell 4
  have z5:=HZ2.out.cell 5
  have y0:=HZ2.out.frozen 0
  have y1:=HZ2.out.frozen 1
  have y2:=HZ2.out.frozen 2
  have y3:=HZ2.out.frozen 3
  have y4:=HZ2.out.frozen 4
  have y5:=HZ2.out.frozen 5
  go_upto_region 5 with (fail)
  obtain ⟨W3,hW3⟩:∃ W3,W3=w2.alloc (.cells #[.int .i64 n1,.int .i64 n2,.int .i64 n3,.int .i64 n4,.int .u64 (n5:Nat),.bool n6] 31):=⟨_,rfl⟩
  obtain ⟨g2,hg2⟩:∃ g2,g2=w2.heap.size:=⟨_,rfl⟩
  have HY:Hid (Blk W3 g2 31 [.int .i64 n1,.int .i64 n2,.int .i64 n3,.int .i64 n4,.int .u64 (n5:Nat),.bool n6]):=by show Blk _ _ _ _;rw [hW3,hg2];exact Blk.new w2 _ _
  have HBn:Below w2.heap.size w2 W3:=by rw [hW3];exact below_new w2 _
  have HB3:Hid (Below w.heap.size w W3):=HB2.out.trans (HBn.mono HB2.out.size)
  have HZ3:Hid (Blk W3 g 31 [.int .i64 0,.int .i64 0,.int .i64 0,.int .i64 0,.int .u64 0,.bool false]):=HZ2.out.below HBn HZ2.out.lt
  rw [← hW3,← hg2]
  clear hW3 hg2 HBn z0 z1 z2 z3 z4 z5 y0 y1 y2 y3 y4 y5
  have z0:=HZ3.out.cell 0
  have y0:=HZ3.out.frozen 0
  have x0:=HY.out.cell 0
  have z1:=HZ3.out.cell 1
  have y1:=HZ3.out.frozen 1
  have x1:=HY.out.cell 1
  have z2:=HZ3.out.cell 2
  have y2:=HZ3.out.frozen 2
  have x2:=HY.out.cell 2
  have z3:=HZ3.out.cell 3
  have y3:=HZ3.out.frozen 3
  have x3:=HY.out.cell 3
  have z4:=HZ3.out.cell 4
  have y4:=HZ3.out.frozen 4
  have x4:=HY.out.cell 4
  have z5:=HZ3.out.cell 5
  have y5:=HZ3.out.frozen 5
  have x5:=HY.out.cell 5
  go_wp2_with fail
  refine bodyPost_ret (results_blk_tmp rfl _ _ g 31 _ _ rfl (Blk.set6 HZ3.out _ _ _ _ _ _) rfl rfl rfl) rfl ?_
  rw [HQ2.out]
  exact ⟨rfl,below_set6 HB3.out (Nat.le_of_eq HGG.out.symm) _ _ _ _ _ _⟩
 ·have hci:((lc:Int)==0)=false:=by rw [beq_eq_false_iff_ne];omega
  have HQ2:Hid (St.lookN t q=(Nd.zero,lc)):=by show _=_;rw [HQ.out,if_pos hc]
  clear HQ hc
  have z0:=HZ1.out.cell 0
  have z1:=HZ1.out.cell 1
  have z2:=HZ1.out.cell 2
  have z3:=HZ1.out.cell 3
  have z4:=HZ1.out.cell 4
  have z5:=HZ1.out.cell 5
  have y0:=HZ1.out.frozen 0
  have y1:=HZ1.out.frozen 1
  have y2:=HZ1.out.frozen 2
  have y3:=HZ1.out.frozen 3
  have y4:=HZ1.out.frozen 4
  have y5:=HZ1.out.frozen 5
  go_wp2_with fail
  refine bodyPost_ret (results_blk_tmp rfl _ _ g 31 [.int .i64 0,.int .i64 0,.int .i64 0,.int .i64 0,.int .u64 0,.bool false] _ rfl (Blk.set6 HZ1.out _ _ _ _ _ _) rfl rfl rfl) rfl ?_
  rw [HQ2.out]
  exact ⟨rfl,below_set6 HB1.out (Nat.le_of_eq HGG.out.symm) _ _ _ _ _ _⟩
end Sm
end Go.Proofs.YtbnpgakmhhfjkaaGreatDoor
namespace Go.Proofs.YtbnpgakmhhfjkaaGreatDoor
open Go.RowKit Rc
open Tr (Nm En T)
open Tm (tobj)
open Sn (sobj)
open St (alone)
namespace Sm
variable {p:Nat} {tv sv:Value} {qs:List Value} {B1 B2 D:Nat→Prop} {s:St.State} {w w':World}
def TOut (s:St.State) (k:Int) (w:World) (e:Ending) (w':World):Prop:=Below w.heap.size w w' ∧
 ((∃ t pp B,St.treeAt s k=some t∧e=.returned (.tuple #[.pointer (some pp),.int .i64 0])∧tobj.At (.pointer (some pp)) t B w')∨(St.treeAt s k=none∧e=.returned (.tuple #[.pointer none,.int .i64 29])))
set_option maxHeartbeats 1000000 in
set_option maxRecDepth 100000 in
theorem treeAt_any (h:StIn p tv sv qs B1 B2 D s w) (hO:St.Ok s) (k:Int):Calls Tryz.prog 95 #[.pointer (some ⟨p,0,none⟩),.int .i64 k] w (TOut s k w):=by
 obtain ⟨tp,rfl⟩:=tobj.ptr h.tr
 obtain ⟨sp,rfl⟩:=sobj.ptr h.sn
 have c0:w.cell? ⟨p,0,none⟩=some (.pointer (some tp)):=h.box.cell 0
 have c1:w.cell? ⟨p,1,none⟩=some (.pointer (some sp)):=h.box.cell 1
 have HG:Hid (Calls Tryz.prog 114 #[.pointer (some sp),.int .i64 k] w (Sn.GetOut s.snaps k w)):=by
  obtain ⟨p2,av,lv,els,DD,e,hs,_⟩:=h.sn
  injection e with e
  injection e with e
  subst e
  exact Sn.get_any k hs hO.snaps
 have HT:=Lib.hid h.tr
 have HS:=Lib.hid hO.snaps
 clear h
 by_cases hk:k=0
 ·subst hk
  go_enter Tryz.func95,Tryz.ntmps95
  go_wp2_with fail
  go_ret2
  exact ⟨Below.refl _ _,.inl ⟨s.tree,tp,B1,rfl,rfl,HT.out⟩⟩
 ·have hki:(k==0)=false:=by rw [beq_eq_false_iff_ne];exact hk
  have HTA:Hid (St.treeAt s k=(s.snaps.all.find? fun x=>decide (x.id=k)).map (·.tree)):=by show _=_;unfold St.treeAt;rw [if_neg hk]
  clear hk
  go_enter Tryz.func95,Tryz.ntmps95
  go_wp2_with fail
  refine HG.out.mono ?_
  rintro e w1 (⟨x,q,hx,hid,rfl,hn⟩|⟨hno,rfl,hb⟩)
  ·have HR:Hid (Below w.heap.size w w1∧∃ B,tobj.At (.pointer (some ⟨q,0,none⟩)) x.tree B w1):=by
    obtain ⟨av,gs,S,h1,h2,h3⟩:=hn
    exact ⟨h3,_,⟨q,av,gs,S,rfl,h1,rfl⟩⟩
   have HA:Hid (St.treeAt s k=some x.tree):=by show _=_;rw [HTA.out,← hid,Sn.find_at HS.out.rise hx];rfl
   clear hx hid hn HTA
   go_wp2_with fail
   go_ret2
   obtain ⟨hb,B,hT⟩:=HR.out
   exact ⟨hb,.inl ⟨x.tree,_,B,HA.out,rfl,hT⟩⟩
  ·have HA:Hid (St.treeAt s k=none):=by show _=_;rw [HTA.out,List.find?_eq_none.2 fun x hx=>by simpa using hno x hx];rfl
   have HB:=Lib.hid hb
   clear hno hb HTA
   go_wp2_with fail
   go_ret2
   exact ⟨HB.out,.inr ⟨HA.out,rfl⟩⟩
end Sm
end Go.Proofs.YtbnpgakmhhfjkaaGreatDoor
namespace Go.Proofs.YtbnpgakmhhfjkaaGreatDoor
open Go.RowKit Rc
open Tr (Nm En T)
namespace St
def opn (kind:Int) (path:Bs) (fd:Int) (till:Nat) (data:Bs):Opn:=⟨kind,path,[],fd,0,0,till,0,data⟩
def kA:Opn:=opn 1 [47,97] 0 0 []
def kB:Opn:=opn 5 [] 0 0 [120,121,122]
def kC:Opn:=opn 6 [] 0 9 []
def kD:Opn:=opn 8 [47,97] 0 0 []
def fA (d:Bs) (u:Nat) (sh:Bool):T:=[⟨⟨0,2,1,0,0,true⟩,[],[([97],1)]⟩,⟨⟨1,1,1,(d.length:Nat),u,sh⟩,d,[]⟩]
theorem known_a:do_ new kA=(num 0,⟨fA [] 0 false,Sn.new,0,.w 1 :: List.replicate 7 .free⟩):=by rfl
theorem known_b:do_ ⟨fA [] 0 false,Sn.new,0,.w 1 :: List.replicate 7 .free⟩ kB=(num 3,⟨fA [120,121,122] 0 false,Sn.new,0,.w 1 :: List.replicate 7 .free⟩):=by rfl
theorem known_c:do_ ⟨fA [120,121,122] 0 false,Sn.new,0,.w 1 :: List.replicate 7 .free⟩ kC=(no 0,⟨fA [120,121,122] 9 true,Sn.new,0,List.replicate 8 .free⟩):=by rfl
theorem known_d:do_ ⟨fA [120,121,122] 9 true,Sn.new,0,List.replicate 8 .free⟩ kD=(no 28,⟨fA [120,121,122] 9 true,Sn.new,0,List.replicate 8 .free⟩):=by rfl
end St
end Go.Proofs.YtbnpgakmhhfjkaaGreatDoor
namespace Go.Proofs.YtbnpgakmhhfjkaaGreatDoor
open Go.RowKit Rc
open Tr (Nm En T)
namespace St
variable {s:State}
theorem used_nat {k:Int} {f:Fd} (h:used s k=some f):0≤k∧s.fds[k.toNat]?=some f∧f≠.free:=by
 unfold used at h
 split at h
 ·cases h
 ·split at h
  ·cases h
  ·next h0 _ h1=>exact ⟨by omega,h,fun e=>h1 (e ▸ h)⟩
end St
end Go.Proofs.YtbnpgakmhhfjkaaGreatDoor
namespace Go.Proofs.YtbnpgakmhhfjkaaGreatDoor
open Go.RowKit Rc
open Tr (Nm En T)
open Tm (tobj)
open Sn (sobj)
open St (alone)
namespace Sm
variable {p:Nat} {tv sv:Value} {qs:List Value} {B1 B2 D:Nat→Prop} {s:St.State} {w w':World}
theorem fdV_is {f:St.Fd} {q:Value} (ht:∃ a,tv=.pointer (some a)) (hq:∀ b,f=.r b→∃ a,q=.pointer (some a)):∃ (a:Option Addr) (i:Int) (b:Bool),fdV tv f q=[.pointer a,.int .i64 i,.bool b]∧a.isNone=f.isFree:=by
 cases f with
 | free=>exact ⟨none,0,false,rfl,rfl⟩
 | w i =>
   obtain ⟨a,rfl⟩:=ht
   exact ⟨some a,i,true,rfl,rfl⟩
 | r b =>
   obtain ⟨a,rfl⟩:=hq b rfl
   exact ⟨some a,1,false,rfl,rfl⟩
theorem StIn.fdOne (h:StIn p tv sv qs B1 B2 D s w) (h8:s.fds.length=8) {k:Nat} (hk:k<8):∃ (f:St.Fd) (a:Option Addr) (i:Int) (b:Bool),s.fds[k]?=some f∧a.isNone=f.isFree ∧
    w.cell? ⟨p,3+k*3,none⟩=some (.pointer a)∧w.cell? ⟨p,3+k*3+1,none⟩=some (.int .i64 i)∧w.cell? ⟨p,3+k*3+2,none⟩=some (.bool b):=by
 obtain ⟨f,hf⟩:∃ f,s.fds[k]?=some f:=⟨_,List.getElem?_eq_getElem (by omega)⟩
 obtain ⟨q,hq⟩:∃ q,qs[k]?=some q:=⟨_,List.getElem?_eq_getElem (by rw [h.len];omega)⟩
 obtain ⟨a,i,b,h1,h2⟩:=fdV_is (tv:=tv) (f:=f) (q:=q) (tobj.ptr h.tr) (fun b hb=>by
  subst hb
  obtain ⟨Bk,h3,_⟩:=h.rd k b q hf hq
  exact tobj.ptr h3)
 have key:∀ j,j<3→w.cell? ⟨p,3+k*3+j,none⟩=[Value.pointer a,.int .i64 i,.bool b][j]?:=fun j hj=>by
  have h3:=fdCells_get tv hf hq j hj
  rw [h1] at h3
  rw [h.box.cell (3+k*3+j),← h3,show 3+k*3+j=(k*3+j)+1+1+1 by omega]
  rfl
 exact ⟨f,a,i,b,hf,h2,key 0 (by decide),key 1 (by decide),key 2 (by decide)⟩
theorem least_eq {l:List St.Fd} {k:Nat} (hk:l[k]?=some .free) (hno:∀ j,j<k→∀ f,l[j]?=some f→f.isFree=false):St.least l=some k:=by
 unfold St.least
 obtain ⟨h1,h2⟩:=List.getElem?_eq_some_iff.1 hk
 refine List.findIdx?_eq_some_iff_getElem.2 ⟨h1,by rw [h2];rfl,fun j hj=>?_⟩
 rw [hno j hj l[j] (List.getElem?_eq_getElem (by omega))]
 decide
theorem least_no {l:List St.Fd} (hno:∀ (j:Nat) f,l[j]?=some f→f.isFree=false):St.least l=none:=by
 unfold St.least
 rw [List.findIdx?_eq_none_iff]
 intro f hf
 obtain ⟨j,hj,rfl⟩:=List.getElem_of_mem hf
 exact hno j _ (List.getElem?_eq_getElem hj)
theorem isFree_is {f:St.Fd} (h:f.isFree=true):f=.free:=by cases f <;> first|rfl|cases h
def leastI (l:List St.Fd):Int:=match St.least l with
 | some k=>(k:Int)
 | none=>-1
structure Eight (p:Nat) (w:World) (l:List St.Fd) (cl:List Value) (pa:Nat→Option Addr) (pi:Nat→Int) (pb:Nat→Bool):Prop where
 load:w.rangeAt p 3 cl
 size:(Tryz.prog.info? 72).map (·.size)=some cl.length
 idx:∀ (j:Nat) (W:World),j<8→(Instr.index 72 (.agg cl.toArray) (.int .i64 j)).run Tryz.prog W=.ok (.agg #[.pointer (pa j),.int .i64 (pi j),.bool (pb j)]) W
 free:∀ j,j<8→∃ f,l[j]?=some f∧(pa j).isNone=f.isFree
set_option maxRecDepth 100000 in
theorem StIn.eight (h:StIn p tv sv qs B1 B2 D s w) (h8:s.fds.length=8):∃ cl pa pi pb,Eight p w s.fds cl pa pi pb:=by
 obtain ⟨f0,a0,i0,b0,hf0,hn0,x0,y0,z0⟩:=h.fdOne h8 (k:=0) (by decide)
 obtain ⟨f1,a1,i1,b1,hf1,hn1,x1,y1,z1⟩:=h.fdOne h8 (k:=1) (by decide)
 obtain ⟨f2,a2,i2,b2,hf2,hn2,x2,y2,z2⟩:=h.fdOne h8 (k:=2) (by decide)
 obtain ⟨f3,a3,i3,b3,hf3,hn3,x3,y3,z3⟩:=h.fdOne h8 (k:=3) (by decide)
 obtain ⟨f4,a4,i4,b4,hf4,hn4,x4,y4,z4⟩:=h.fdOne h8 (k:=4) (by decide)
 obtain ⟨f5,a5,i5,b5,hf5,hn5,x5,y5,z5⟩:=h.fdOne h8 (k:=5) (by decide)
 obtain ⟨f6,a6,i6,b6,hf6,hn6,x6,y6,z6⟩:=h.fdOne h8 (k:=6) (by decide)
 obtain ⟨f7,a7,i7,b7,hf7,hn7,x7,y7,z7⟩:=h.fdOne h8 (k:=7) (by decide)
 refine ⟨[.pointer a0,.int .i64 i0,.bool b0,.pointer a1,.int .i64 i1,.bool b1,.pointer a2,.int .i64 i2,.bool b2,.pointer a3,.int .i64 i3,.bool b3,.pointer a4,.int .i64 i4,.bool b4,.pointer a5,.int .i64 i5,.bool b5,.pointer a6,.int .i64 i6,.bool b6,.pointer a7,.int .i64 i7,.bool b7],fun j=>[a0,a1,a2,a3,a4,a5,a6,a7].getD j none,fun j=>[i0,i1,i2,i3,i4,i5,i6,i7].getD j 0,fun j=>[b0,b1,b2,b3,b4,b5,b6,b7].getD j false,fun j v hv=>?_,by kernel_rfl,fun j W hj=>?_,fun j hj=>?_⟩
 ·have hj:j<24:=(List.getElem?_eq_some_iff.1 hv).1
  rw [← hv]
  match j,hj with
  | 0,_=>exact x0
  | 1,_=>exact y0
  | 2,_=>exact z0
  | 3,_=>exact x1
  | 4,_=>exact y1
  | 5,_=>exact z1
  | 6,_=>exact x2
  | 7,_=>exact y2
  | 8,_=>exact z2
  | 9,_=>exact x3
  | 10,_=>exact y3
  | 11,_=>exact z3
  | 12,_=>exact x4
  | 13,_=>exact y4
  | 14,_=>exact z4
  | 15,_=>exact x5
  | 16,_=>exact y5
  | 17,_=>exact z5
  | 18,_=>exact x6
  | 19,_=>exact y6
  | 20,_=>exact z6
  | 21,_=>exact x7
  | 22,_=>exact y7
  | 23,_=>exact z7
  | n+24,h=>omega
 ·obtain rfl|rfl|rfl|rfl|rfl|rfl|rfl|rfl:j=0∨j=1∨j=2∨j=3∨j=4∨j=5∨j=6∨j=7:=by omega
  all_goals kernel_rfl
 ·match j,hj with
  | 0,_=>exact ⟨f0,hf0,hn0⟩
  | 1,_=>exact ⟨f1,hf1,hn1⟩
  | 2,_=>exact ⟨f2,hf2,hn2⟩
  | 3,_=>exact ⟨f3,hf3,hn3⟩
  | 4,_=>exact ⟨f4,hf4,hn4⟩
  | 5,_=>exact ⟨f5,hf5,hn5⟩
  | 6,_=>exact ⟨f6,hf6,hn6⟩
  | 7,_=>exact ⟨f7,hf7,hn7⟩
  | n+8,h=>omega
set_option maxHeartbeats 4000000 in
set_option maxRecDepth 100000 in
theorem leastFree_any (h:StIn p tv sv qs B1 B2 D s w) (h8:s.fds.length=8):Calls Tryz.prog 94 #[.pointer (some ⟨p,0,none⟩)] w fun e w'=>e=.returned (.int .i64 (leastI s.fds))∧Below w.heap.size w w':=by
 obtain ⟨cl,pa,pi,pb,hE⟩:=h.eight h8
 have HRG:=Lib.hid hE.load
 have HSZ:=Lib.hid hE.size
 have HIDX:=Lib.hid hE.idx
 have HFR:=Lib.hid hE.free
 have H8:=Lib.hid h8
 clear h h8 hE
 go_enter Tryz.func94,Tryz.ntmps94
 go_wp2_with (first
  | (refine wpList_load_mid rfl 72 (.tmp 7) rfl p 3 rfl cl _ HRG.out Tryz.underlying72 rfl HSZ.out ?_))
 go_loopw [3,4,9] (fun t3 t4 t9 wr=>∃ (j:Nat) (v3 v4:Value),t3=v3∧t4=v4∧t9=.int .i64 j∧j≤8∧Hid (∀ i,i<j→∀ f,s.fds[i]?=some f→f.isFree=false)∧Hid (Below w.heap.size w wr)) (fun _ _ t9 _=>8-(match t9 with|.int _ k=>k.toNat|_=>0))
 case atStart=>exact ⟨0,_,_,rfl,rfl,rfl,Nat.zero_le _,(fun i hi=>by omega),Below.refl _ _⟩
 case round =>
  obtain ⟨j,v3,v4,rfl,rfl,rfl,hj,HNO,HB⟩:=hrel
  by_cases hk:j<8
  ·have hlt2:(j:Int)<8:=by omega
   have hI:=HIDX.out j wr hk
   obtain ⟨x,hx⟩:∃ x,x=pa j:=⟨_,rfl⟩
   obtain ⟨y,hy⟩:∃ y,y=pi j:=⟨_,rfl⟩
   obtain ⟨z,hz⟩:∃ z,z=pb j:=⟨_,rfl⟩
   rw [← hx,← hy,← hz] at hI
   have HX:Hid (∃ f,s.fds[j]?=some f∧x.isNone=f.isFree):=by
    have:=HFR.out j hk
    rw [← hx] at this
    exact this
   obtain ⟨wn,hwn⟩:∃ wn,wn=wr.alloc (.cells #[.pointer x,.int .i64 y,.bool z] 71):=⟨_,rfl⟩
   obtain ⟨bn,hbn⟩:∃ bn,bn=wr.heap.size:=⟨_,rfl⟩
   have HBK:Hid (Blk wn bn 71 [.pointer x,.int .i64 y,.bool z]):=by show Blk _ _ _ _;rw [hwn,hbn];exact Blk.new wr _ _
   have d0:=HBK.out.cell 0
   have d1:=HBK.out.cell 1
   have d2:=HBK.out.cell 2
   have HBN:Hid (Below w.heap.size w wn):=by
    have:=below_new wr (.cells #[.pointer x,.int .i64 y,.bool z] 71)
    rw [← hwn] at this
    exact HB.out.trans (this.mono HB.out.size)
   clear hx hy hz
   go_upto_region 4 with (fail)
   rw [← hwn,← hbn]
   clear hwn hbn hI
   have HF:=Lib.hid (free_any x y z wn)
   have HX2:=Lib.hid HX.out
   cases hxn:x.isNone with
   | true =>
     have HL:Hid (leastI s.fds=(j:Int)):=by
      show _=_
      obtain ⟨f,hf,hfi⟩:=HX2.out
      rw [hxn] at hfi
      have:=isFree_is hfi.symm
      subst this
      unfold leastI
      rw [least_eq hf HNO.out]
     rw [hxn] at HF
     clear hxn HX
     go_wp2_with fail
     refine HF.out.mono ?_
     rintro e w2 ⟨rfl,hb2⟩
     have HB2:Hid (Below w.heap.size w w2):=HBN.out.trans (hb2.mono HBN.out.size)
     clear hb2
     go_wp2_with fail
     go_ret
     rw [HL.out]
     exact ⟨rfl,HB2.out⟩
   | false =>
     have HN2:Hid (∀ i,i<j+1→∀ f,s.fds[i]?=some f→f.isFree=false):=fun i hi f hf=>by
      rcases Nat.lt_or_ge i j with h9|h9
      ·exact HNO.out i h9 f hf
      ·obtain rfl:i=j:=by omega
       obtain ⟨f',hf',hfi⟩:=HX2.out
       rw [hf] at hf'
       injection hf' with hf'
       subst hf'
       rw [← hfi,hxn]
     rw [hxn] at HF
     clear hxn HX
     go_wp2_with fail
     refine HF.out.mono ?_
     rintro e w2 ⟨rfl,hb2⟩
     have HB2:Hid (Below w.heap.size w w2):=HBN.out.trans (hb2.mono HBN.out.size)
     clear hb2
     go_wp2_with fail
     go_roundw
     case rel=>exact ⟨j+1,_,_,rfl,rfl,by go_num,by omega,HN2.out,HB2.out⟩
     case measure=>simp;omega
  ·obtain rfl:j=8:=by omega
   have HL:Hid (leastI s.fds=-1):=by
    show _=_
    unfold leastI
    rw [least_no fun i f hf=>HNO.out i (by rw [← H8.out];exact (List.getElem?_eq_some_iff.1 hf).1) f hf]
   go_wp2_with fail
   go_ret
   rw [HL.out]
   exact ⟨rfl,HB.out⟩
end Sm
end Go.Proofs.YtbnpgakmhhfjkaaGreatDoor
namespace Go.Proofs.YtbnpgakmhhfjkaaGreatDoor
open Go.RowKit Rc
open Tr (Nm En T)
open Tm (tobj)
open Sn (sobj)
open St (alone)
namespace Sm
variable {p:Nat} {tv sv:Value} {qs:List Value} {B1 B2 D:Nat→Prop} {s:St.State} {w w':World}
def UOut (tv:Value) (D:Nat→Prop) (f:Option St.Fd) (w:World) (e:Ending) (w':World):Prop:=Below w.heap.size w w' ∧
 ((f=none∧e=.returned (.tuple #[.agg #[.pointer none,.int .i64 0,.bool false],.int .i64 26])) ∨
  (∃ i,f=some (.w i)∧e=.returned (.tuple #[.agg #[tv,.int .i64 i,.bool true],.int .i64 0])) ∨
  (∃ b q Bk,f=some (.r b)∧e=.returned (.tuple #[.agg #[.pointer (some q),.int .i64 1,.bool false],.int .i64 0])∧tobj.At (.pointer (some q)) (alone b) Bk w∧∀ x,Bk x→D x))
theorem StIn.fdAt (h:StIn p tv sv qs B1 B2 D s w) (h8:s.fds.length=8) {k:Nat} (hk:k<8):∃ (f:St.Fd) (a:Option Addr) (i:Int) (b:Bool),s.fds[k]?=some f∧a.isNone=f.isFree ∧
    w.cell? ⟨p,3+k*3,none⟩=some (.pointer a)∧w.cell? ⟨p,3+k*3+1,none⟩=some (.int .i64 i)∧w.cell? ⟨p,3+k*3+2,none⟩=some (.bool b) ∧
    (f=.free∨(∃ i',f=.w i'∧tv=.pointer a∧i=i'∧b=true)∨(∃ d q Bk,f=.r d∧a=some q∧i=1∧b=false∧tobj.At (.pointer (some q)) (alone d) Bk w∧∀ x,Bk x→D x)):=by
 obtain ⟨f,hf⟩:∃ f,s.fds[k]?=some f:=⟨_,List.getElem?_eq_getElem (by omega)⟩
 obtain ⟨q,hq⟩:∃ q,qs[k]?=some q:=⟨_,List.getElem?_eq_getElem (by rw [h.len];omega)⟩
 have key:∀ j,j<3→w.cell? ⟨p,3+k*3+j,none⟩=(fdV tv f q)[j]?:=fun j hj=>by
  have h3:=fdCells_get tv hf hq j hj
  rw [h.box.cell (3+k*3+j),← h3,show 3+k*3+j=(k*3+j)+1+1+1 by omega]
  rfl
 cases f with
 | free=>exact ⟨_,none,0,false,hf,rfl,key 0 (by decide),key 1 (by decide),key 2 (by decide),.inl rfl⟩
 | w i =>
   obtain ⟨a,rfl⟩:=tobj.ptr h.tr
   exact ⟨_,some a,i,true,hf,rfl,key 0 (by decide),key 1 (by decide),key 2 (by decide),.inr (.inl ⟨i,rfl,rfl,rfl,rfl⟩)⟩
 | r d =>
   obtain ⟨Bk,h3,h4⟩:=h.rd k d q hf hq
   obtain ⟨a,rfl⟩:=tobj.ptr h3
   exact ⟨_,some a,1,false,hf,rfl,key 0 (by decide),key 1 (by decide),key 2 (by decide),.inr (.inr ⟨d,a,Bk,rfl,rfl,rfl,rfl,h3,h4⟩)⟩
set_option maxHeartbeats 4000000 in
set_option maxRecDepth 100000 in
theorem used_any (h:StIn p tv sv qs B1 B2 D s w) (h8:s.fds.length=8) (k:Int):Calls Tryz.prog 98 #[.pointer (some ⟨p,0,none⟩),.int .i64 k] w (UOut tv D (St.used s k) w):=by
 obtain ⟨W0,hW0⟩:∃ W0,W0=w.alloc (.cells #[.pointer none,.int .i64 0,.bool false] 71):=⟨_,rfl⟩
 obtain ⟨g,hg⟩:∃ g,g=w.heap.size:=⟨_,rfl⟩
 have HZ0:Hid (Blk W0 g 71 [.pointer none,.int .i64 0,.bool false]):=by show Blk _ _ _ _;rw [hW0,hg];exact Blk.new w _ _
 have HB0:Hid (Below w.heap.size w W0):=by show Below _ _ _;rw [hW0];exact below_new w _
 have HGG:Hid (g=w.heap.size):=hg
 have g0:=HZ0.out.cell 0
 have g1:=HZ0.out.cell 1
 have g2:=HZ0.out.cell 2
 have e0:=HZ0.out.frozen 0
 have e1:=HZ0.out.frozen 1
 have e2:=HZ0.out.frozen 2
 have H:=Lib.hid h
 have H8:=Lib.hid h8
 by_cases hk:0≤k∧k<8
 ·obtain ⟨n,rfl⟩:∃ n:Nat,k=n:=⟨k.toNat,by omega⟩
  have hn8:n<8:=by omega
  obtain ⟨f,a,i,b,hf,hfr,c0,c1,c2,hcase⟩:=h.fdAt h8 hn8
  have hlt:((n:Int)<0)=False:=by simp
  have hge:(8≤(n:Int))=False:=by simp;omega
  have hpl:=h.box.lt
  replace c0:=(HB0.out.cell (p:=⟨p,3+n*3,none⟩) hpl).trans c0
  replace c1:=(HB0.out.cell (p:=⟨p,3+n*3+1,none⟩) hpl).trans c1
  replace c2:=(HB0.out.cell (p:=⟨p,3+n*3+2,none⟩) hpl).trans c2
  clear h h8 hk hpl
  go_enter Tryz.func98,Tryz.ntmps98
  go_upto_region 1 with (fail)
  rw [← hW0,← hg]
  clear hW0 hg
  have hus:St.used s (n:Int)=if f.isFree then none else some f:=by
   unfold St.used
   rw [if_neg (by omega),Int.toNat_natCast,hf]
   cases f <;> rfl
  have HF:=Lib.hid (free_any a i b W0)
  have HP:Hid (p<W0.heap.size):=(H.out.below HB0.out).box.lt
  have HC:Hid (W0.cell? ⟨p,3+n*3,none⟩=some (.pointer a)∧W0.cell? ⟨p,3+n*3+1,none⟩=some (.int .i64 i)∧W0.cell? ⟨p,3+n*3+2,none⟩=some (.bool b)):=⟨c0,c1,c2⟩
  have HUS:=Lib.hid hus
  have HFR:=Lib.hid hfr
  have HCASE:=Lib.hid hcase
  clear hf hus hfr hcase
  cases hxn:a.isNone with
  | true =>
    have HN:Hid (St.used s (n:Int)=none):=by
     show _=_
     rw [HUS.out,if_pos (HFR.out.symm.trans hxn)]
    rw [hxn] at HF
    clear hxn
    go_wp2_with fail
    refine HF.out.mono ?_
    rintro e w2 ⟨rfl,hb2⟩
    have HB2:Hid (Below w.heap.size w w2):=HB0.out.trans (hb2.mono HB0.out.size)
    have HZ2:Hid (Blk w2 g 71 [.pointer none,.int .i64 0,.bool false]):=HZ0.out.below hb2 HZ0.out.lt
    clear hb2 g0 g1 g2 e0 e1 e2 c0 c1 c2
    have g0:=HZ2.out.cell 0
    have e0:=HZ2.out.frozen 0
    have g1:=HZ2.out.cell 1
    have e1:=HZ2.out.frozen 1
    have g2:=HZ2.out.cell 2
    have e2:=HZ2.out.frozen 2
    go_wp2_with fail
    refine bodyPost_ret (results_blk_tmp rfl _ _ g 71 [.pointer none,.int .i64 0,.bool false] _ rfl (Sn.set3_blk HZ2.out _ _ _) rfl rfl rfl) rfl ?_
    exact ⟨Sn.set3_below HB2.out (Nat.le_of_eq HGG.out.symm) _ _ _,.inl ⟨HN.out,rfl⟩⟩
  | false =>
    have HN:Hid (St.used s (n:Int)=some f):=by
     show _=_
     rw [HUS.out,if_neg]
     rw [← HFR.out,hxn]
     decide
    have HFF:Hid (f.isFree=false):=by show _=_;rw [← HFR.out,hxn]
    rw [hxn] at HF
    clear hxn
    go_wp2_with fail
    refine HF.out.mono ?_
    rintro e w2 ⟨rfl,hb2⟩
    have HB2:Hid (Below w.heap.size w w2):=HB0.out.trans (hb2.mono HB0.out.size)
    have HZ2:Hid (Blk w2 g 71 [.pointer none,.int .i64 0,.bool false]):=HZ0.out.below hb2 HZ0.out.lt
    clear g0 g1 g2 e0 e1 e2 c0 c1 c2
    have g0:=HZ2.out.cell 0
    have e0:=HZ2.out.frozen 0
    have g1:=HZ2.out.cell 1
    have e1:=HZ2.out.frozen 1
    have g2:=HZ2.out.cell 2
    have e2:=HZ2.out.frozen 2
    have c0:=(hb2.cell (p:=⟨p,3+n*3,none⟩) HP.out).trans HC.out.1
    have c1:=(hb2.cell (p:=⟨p,3+n*3+1,none⟩) HP.out).trans HC.out.2.1
    have c2:=(hb2.cell (p:=⟨p,3+n*3+2,none⟩) HP.out).trans HC.out.2.2
    have HEND:Hid (∀ wF,Below w.heap.size w wF→UOut tv D (St.used s (n:Int)) w (.returned (.tuple #[.agg #[.pointer a,.int .i64 i,.bool b],.int .i64 0])) wF):=fun wF hF=>by
     refine ⟨hF,?_⟩
     rcases HCASE.out with h1|⟨i',h1,h2,h3,h4⟩|⟨d,q,Bk,h1,h2,h3,h4,h5,h6⟩
     ·have:=HFF.out
      rw [h1] at this
      cases this
     ·exact .inr (.inl ⟨i',by rw [HN.out,h1],by rw [h2,h3,h4]⟩)
     ·subst h2 h3 h4
      exact .inr (.inr ⟨d,q,Bk,by rw [HN.out,h1],rfl,h5,h6⟩)
    clear hb2
    go_wp2_with fail
    refine bodyPost_ret (results_blk_tmp rfl _ _ g 71 [.pointer a,.int .i64 i,.bool b] _ rfl (Sn.set3_blk HZ2.out _ _ _) rfl rfl rfl) rfl ?_
    exact HEND.out _ (Sn.set3_below HB2.out (Nat.le_of_eq HGG.out.symm) _ _ _)
 ·have HN:Hid (St.used s k=none):=by
   show _=_
   unfold St.used
   split
   ·rfl
   ·have:s.fds[k.toNat]?=none:=List.getElem?_eq_none (by rw [h8];omega)
    rw [this]
  clear h h8
  by_cases hlt:k<0
  ·clear hk
   go_enter Tryz.func98,Tryz.ntmps98
   go_upto_region 1 with (fail)
   rw [← hW0,← hg]
   clear hW0 hg
   go_wp2_with fail
   refine bodyPost_ret (results_blk_tmp rfl _ _ g 71 [.pointer none,.int .i64 0,.bool false] _ rfl (Sn.set3_blk HZ0.out _ _ _) rfl rfl rfl) rfl ?_
   exact ⟨Sn.set3_below HB0.out (Nat.le_of_eq HGG.out.symm) _ _ _,.inl ⟨HN.out,rfl⟩⟩
  ·have hge:8≤k:=by omega
   clear hk
   go_enter Tryz.func98,Tryz.ntmps98
   go_upto_region 1 with (fail)
   rw [← hW0,← hg]
   clear hW0 hg
   go_wp2_with fail
   refine bodyPost_ret (results_blk_tmp rfl _ _ g 71 [.pointer none,.int .i64 0,.bool false] _ rfl (Sn.set3_blk HZ0.out _ _ _) rfl rfl rfl) rfl ?_
   exact ⟨Sn.set3_below HB0.out (Nat.le_of_eq HGG.out.symm) _ _ _,.inl ⟨HN.out,rfl⟩⟩
end Sm
end Go.Proofs.YtbnpgakmhhfjkaaGreatDoor
namespace Go.Proofs.YtbnpgakmhhfjkaaGreatDoor
open Go.RowKit Rc
namespace Sm
theorem cells10{w:World}{g:Nat}{t:TypeId}{a0 a1 a2 a3 a4 a5 a6 a7 a8 a9:Value}(h:Blk w g t [a0,a1,a2,a3,a4,a5,a6,a7,a8,a9]):w.cell? ⟨g,0,none⟩=some a0∧w.frozen? ⟨g,0,none⟩=false∧w.cell? ⟨g,1,none⟩=some a1∧w.frozen? ⟨g,1,none⟩=false∧w.cell? ⟨g,2,none⟩=some a2∧w.frozen? ⟨g,2,none⟩=false∧w.cell? ⟨g,3,none⟩=some a3∧w.frozen? ⟨g,3,none⟩=false∧w.cell? ⟨g,4,none⟩=some a4∧w.frozen? ⟨g,4,none⟩=false∧w.cell? ⟨g,5,none⟩=some a5∧w.frozen? ⟨g,5,none⟩=false∧w.cell? ⟨g,6,none⟩=some a6∧w.frozen? ⟨g,6,none⟩=false∧w.cell? ⟨g,7,none⟩=some a7∧w.frozen? ⟨g,7,none⟩=false∧w.cell? ⟨g,8,none⟩=some a8∧w.frozen? ⟨g,8,none⟩=false∧w.cell? ⟨g,9,none⟩=some a9∧w.frozen? ⟨g,9,none⟩=false:=
⟨h.cell 0,h.frozen 0,h.cell 1,h.frozen 1,h.cell 2,h.frozen 2,h.cell 3,h.frozen 3,h.cell 4,h.frozen 4,h.cell 5,h.frozen 5,h.cell 6,h.frozen 6,h.cell 7,h.frozen 7,h.cell 8,h.frozen 8,h.cell 9,h.frozen 9⟩
theorem set10_blk {w:World} {g:Nat} {t:TypeId} {a0 a1 a2 a3 a4 a5 a6 a7 a8 a9:Value} (h:Blk w g t [a0,a1,a2,a3,a4,a5,a6,a7,a8,a9]) (x0 x1 x2 x3 x4 x5 x6 x7 x8 x9:Value) :
    Blk ((((((((((w.setCell ⟨g,0,none⟩ x0).setCell ⟨g,1,none⟩ x1).setCell ⟨g,2,none⟩ x2).setCell ⟨g,3,none⟩ x3).setCell ⟨g,4,none⟩ x4).setCell ⟨g,5,none⟩ x5).setCell ⟨g,6,none⟩ x6).setCell ⟨g,7,none⟩ x7).setCell ⟨g,8,none⟩ x8).setCell ⟨g,9,none⟩ x9) g t [x0,x1,x2,x3,x4,x5,x6,x7,x8,x9] :=
 ((((((((((h.set_ 0 x0).set_ 1 x1).set_ 2 x2).set_ 3 x3).set_ 4 x4).set_ 5 x5).set_ 6 x6).set_ 7 x7).set_ 8 x8).set_ 9 x9)
theorem set10_below {w w':World} {B g:Nat} (h:Below B w w') (hg:B≤g) (x0 x1 x2 x3 x4 x5 x6 x7 x8 x9:Value) :
    Below B w ((((((((((w'.setCell ⟨g,0,none⟩ x0).setCell ⟨g,1,none⟩ x1).setCell ⟨g,2,none⟩ x2).setCell ⟨g,3,none⟩ x3).setCell ⟨g,4,none⟩ x4).setCell ⟨g,5,none⟩ x5).setCell ⟨g,6,none⟩ x6).setCell ⟨g,7,none⟩ x7).setCell ⟨g,8,none⟩ x8).setCell ⟨g,9,none⟩ x9) :=
 below_set1 (below_set1 (below_set1 (below_set1 (below_set1 (below_set1 (below_set1 (below_set1 (below_set1 (below_set1 (h) hg 0 x0) hg 1 x1) hg 2 x2) hg 3 x3) hg 4 x4) hg 5 x5) hg 6 x6) hg 7 x7) hg 8 x8) hg 9 x9
theorem set10_mod (w:World) (g:Nat) (x0 x1 x2 x3 x4 x5 x6 x7 x8 x9:Value):Mod w ((((((((((w.setCell ⟨g,0,none⟩ x0).setCell ⟨g,1,none⟩ x1).setCell ⟨g,2,none⟩ x2).setCell ⟨g,3,none⟩ x3).setCell ⟨g,4,none⟩ x4).setCell ⟨g,5,none⟩ x5).setCell ⟨g,6,none⟩ x6).setCell ⟨g,7,none⟩ x7).setCell ⟨g,8,none⟩ x8).setCell ⟨g,9,none⟩ x9) (fun b=>b=g):=by
 have h:=(((((((((((Keeps.refl w g).setCell 0 x0).setCell 1 x1).setCell 2 x2).setCell 3 x3).setCell 4 x4).setCell 5 x5).setCell 6 x6).setCell 7 x7).setCell 8 x8).setCell 9 x9)
 exact ⟨h.os,h.tape,h.output,h.size,fun k hk hn=>h.block k hk (fun e=>hn (by injection e))⟩
theorem set3_list {α:Type}:∀ (l:List α) (a:Nat) (x y z:α),a+3≤l.length→((l.set a x).set (a+1) y).set (a+2) z=l.take a++[x,y,z]++l.drop (a+3)
 | [],a,_,_,_,h=>by simp at h
 | [_],a,_,_,_,h=>by simp at h
 | [_,_],a,_,_,_,h=>by simp at h
 | _ :: _ :: _ :: l,0,x,y,z,_=>by simp
 | b :: l,a+1,x,y,z,h=>by
   have:=set3_list l a x y z (by simp at h;omega)
   simp only [List.set_cons_succ,List.take_succ_cons,List.cons_append,show a+1+1=(a+1)+1 from rfl,show a+1+2=(a+2)+1 from rfl,show a+1+3=(a+3)+1 from rfl,List.drop_succ_cons]
   rw [this]
def fdW (w:World) (p k:Nat) (x y z:Value):World:=((w.setCell ⟨p,3+k*3,none⟩ x).setCell ⟨p,3+k*3+1,none⟩ y).setCell ⟨p,3+k*3+2,none⟩ z
theorem fdW_mod (w:World) (p k:Nat) (x y z:Value):Mod w (fdW w p k x y z) (fun b=>b=p):=by
 have h:=(((Keeps.refl w p).setCell (3+k*3) x).setCell (3+k*3+1) y).setCell (3+k*3+2) z
 exact ⟨h.os,h.tape,h.output,h.size,fun k hk hn=>h.block k hk (fun e=>hn (by injection e))⟩
theorem fdW_blk {w:World} {p k:Nat} {t:TypeId} {a b c:Value} {F:List Value} (h:Blk w p t (a :: b :: c :: F)) (hk:k*3+3≤F.length) (x y z:Value):Blk (fdW w p k x y z) p t (a :: b :: c :: (F.take (k*3)++[x,y,z]++F.drop (k*3+3))):=by
 have h1:=((h.set_ (3+k*3) x).set_ (3+k*3+1) y).set_ (3+k*3+2) z
 rw [show 3+k*3+1=(k*3+1)+1+1+1 by omega,show 3+k*3+2=(k*3+2)+1+1+1 by omega] at h1
 unfold fdW
 rw [show 3+k*3+1=(k*3+1)+1+1+1 by omega,show 3+k*3+2=(k*3+2)+1+1+1 by omega]
 have e0:(a :: b :: c :: F).set (3+k*3) x=a :: b :: c :: F.set (k*3) x:=by
  rw [show 3+k*3=(k*3)+1+1+1 by omega]
  rfl
 rw [e0] at h1
 simp only [List.set_cons_succ] at h1
 rw [set3_list _ _ _ _ _ hk] at h1
 exact h1
def rep0 (e n:Int):Value:=.agg #[.int .i64 e,.int .i64 n,.slice none 0 0,.slice none 0 0,.int .i64 0,.int .i64 0,.int .i64 0,.int .i64 0,.int .u64 0,.bool false]
def repL (e n:Int):List Value:=[.int .i64 e,.int .i64 n,.slice none 0 0,.slice none 0 0,.int .i64 0,.int .i64 0,.int .i64 0,.int .i64 0,.int .u64 0,.bool false]
theorem results_blk {P:Program} {fn:Func} {p:Tmp} {ty:TypeId} (h:fn.results=#[.cell p ty]) (tmps:Array Value) (w:World) (g:Nat) (t:TypeId) (cs:List Value) (d:TypeDesc)
    (hp:tmps.getD p undef=.pointer (some ⟨g,0,none⟩)) (hb:Blk w g t cs)
    (hu:P.underlying ty=some d) (hd:(match d with|.struct _|.array _ _=>true|_=>false)=true) (hi:(P.info? ty).map (·.size)=some cs.length) :
    (results fn tmps).run P w=.ok (.agg cs.toArray) w :=
 results_cell_row h tmps w g t cs.toArray (0,0) d hp hb hu hd (by simpa using hi)
end Sm
end Go.Proofs.YtbnpgakmhhfjkaaGreatDoor
namespace Go.Proofs.YtbnpgakmhhfjkaaGreatDoor
open Go.RowKit Rc
open Tr (Nm En T)
open Tm (tobj)
open Sn (sobj)
open St (alone)
namespace Sm
theorem below_drew (w:World):Below w.heap.size w w.drew:=⟨rfl,rfl,rfl,Nat.le_refl _,fun _ _=>rfl⟩
variable {p:Nat} {tv sv:Value} {qs:List Value} {B1 B2 D:Nat→Prop} {s:St.State} {w w':World}
set_option maxHeartbeats 4000000 in
set_option maxRecDepth 100000 in
theorem unlink_in (h:StIn p tv sv qs B1 B2 D s w) (hO:St.Ok s) {A:Option Addr} {q:List Bs} {cap:Nat} (hq:Way w A q cap) :
    Calls Tryz.prog 45 #[.pointer (some ⟨p,0,none⟩),.slice A q.length cap] w (Ob.Turns stobj (.pointer (some ⟨p,0,none⟩)) (St.unlink s q).2 (.int .i64 ((St.unlink s q).1:Nat)) (StS p B1 B2 D) w):=by
 obtain ⟨tp,rfl⟩:=tobj.ptr h.tr
 have HN0:Hid (Nw p (.pointer (some tp)) sv qs w (StS p B1 B2 D) B1 B2 D s w):=Nw.start h
 obtain ⟨nd,hnd⟩:∃ nd,nd=(St.lookN s.tree q).1:=⟨_,rfl⟩
 obtain ⟨lc,hlc⟩:∃ lc,lc=(St.lookN s.tree q).2:=⟨_,rfl⟩
 obtain ⟨rc,hrc⟩:∃ rc,rc=Wo.remove nd s.now:=⟨_,rfl⟩
 have HUN:Hid (St.unlink s q=if lc≠0 then (lc,s) else if rc≠0 then (rc,s) else ((Tr.unlink s.tree q).1,{ s with tree:=(Tr.unlink s.tree q).2 })):=by
  show _=_
  unfold St.unlink
  rw [← hlc,← hnd,← hrc]
 have hLK:=look_any h.tr hO.tree hq
 rw [← hnd,← hlc] at hLK
 have hRM:=fun W=>Wo.remove_any nd s.now W
 rw [← hrc] at hRM
 obtain ⟨n1,n2,n3,n4,n5,n6⟩:=nd
 have HLK:Hid (Calls Tryz.prog 96 #[.pointer (some tp),.slice A q.length cap] w fun e w'=>e=.returned (.tuple #[.agg #[.int .i64 n1,.int .i64 n2,.int .i64 n3,.int .i64 n4,.int .u64 (n5:Nat),.bool n6],.int .i64 (lc:Nat)])∧Below w.heap.size w w'):=hLK
 have HRM:Hid (∀ W,Calls Tryz.prog 102 #[.agg #[.int .i64 n1,.int .i64 n2,.int .i64 n3,.int .i64 n4,.int .u64 (n5:Nat),.bool n6],.int .u64 (s.now:Nat)] W fun e w'=>e=.returned (.int .i64 (rc:Nat))∧Below W.heap.size W w'):=hRM
 have HO:=Lib.hid hO
 have HW:=Lib.hid hq
 have c0:w.cell? ⟨p,0,none⟩=some (.pointer (some tp)):=h.box.cell 0
 clear h hO hq hLK hRM hnd hlc hrc
 go_enter Tryz.func45,Tryz.ntmps45
 go_wp2_with fail
 refine HLK.out.mono ?_
 rintro e w1 ⟨rfl,hb1⟩
 obtain ⟨W2,hW2⟩:∃ W2,W2=w1.alloc (.cells #[.int .i64 n1,.int .i64 n2,.int .i64 n3,.int .i64 n4,.int .u64 (n5:Nat),.bool n6] 31):=⟨_,rfl⟩
 obtain ⟨g,hg⟩:∃ g,g=w1.heap.size:=⟨_,rfl⟩
 have HZ2:Hid (Blk W2 g 31 [.int .i64 n1,.int .i64 n2,.int .i64 n3,.int .i64 n4,.int .u64 (n5:Nat),.bool n6]):=by show Blk _ _ _ _;rw [hW2,hg];exact Blk.new w1 _ _
 have hb2:Below w1.heap.size w1 W2:=by rw [hW2];exact below_new w1 _
 have HB2:Hid (Below w.heap.size w W2):=hb1.trans (hb2.mono hb1.size)
 have HN2:Hid (Nw p (.pointer (some tp)) sv qs w (StS p B1 B2 D) B1 B2 D s W2):=(HN0.out.later hb1).later hb2
 clear hb1 hb2 HLK HN0 c0
 go_upto_region 2 with (fail)
 rw [← hW2,← hg]
 clear hW2 hg
 by_cases hc:lc=0
 ·subst hc
  have HUN2:Hid (St.unlink s q=if rc≠0 then (rc,s) else ((Tr.unlink s.tree q).1,{ s with tree:=(Tr.unlink s.tree q).2 })):=HUN.out
  have z0:=HZ2.out.cell 0
  have z1:=HZ2.out.cell 1
  have z2:=HZ2.out.cell 2
  have z3:=HZ2.out.cell 3
  have z4:=HZ2.out.cell 4
  have z5:=HZ2.out.cell 5
  have c0:W2.cell? ⟨p,0,none⟩=some (.pointer (some tp)):=HN2.out.in_.box.cell 0
  have c2:W2.cell? ⟨p,2,none⟩=some (.int .u64 (s.now:Nat)):=HN2.out.in_.box.cell 2
  go_upto_region 4 with (fail)
  go_still_tail 5,(by kernel_rfl)
  change wpList _ _ _ _ _ W2.drew
  obtain ⟨wd,hwd⟩:∃ wd,wd=W2.drew:=⟨_,rfl⟩
  have hbd:Below W2.heap.size W2 wd:=by rw [hwd];exact below_drew W2
  have HND:Hid (Nw p (.pointer (some tp)) sv qs w (StS p B1 B2 D) B1 B2 D s wd):=HN2.out.later hbd
  have HBD:Hid (Below w.heap.size w wd):=HB2.out.trans (hbd.mono HB2.out.size)
  rw [← hwd]
  clear hwd hbd
  go_wp2_with fail
  refine (HRM.out wd).mono ?_
  rintro e w3 ⟨rfl,hb3⟩
  have HN3:Hid (Nw p (.pointer (some tp)) sv qs w (StS p B1 B2 D) B1 B2 D s w3):=HND.out.later hb3
  have HB3:Hid (Below w.heap.size w w3):=HBD.out.trans (hb3.mono HBD.out.size)
  clear hb3 c0 c2 z0 z1 z2 z3 z4 z5
  by_cases hr:rc=0
  ·subst hr
   have HUN3:Hid (St.unlink s q=((Tr.unlink s.tree q).1,{ s with tree:=(Tr.unlink s.tree q).2 })):=HUN2.out
   have HM:=Lib.hid (t_unlink HN3.out.in_.tr HO.out.tree (HW.out.below HB3.out))
   have c0:w3.cell? ⟨p,0,none⟩=some (.pointer (some tp)):=HN3.out.in_.box.cell 0
   go_wp2_with fail
   refine HM.out.mono ?_
   intro e w4 ht
   obtain ⟨rfl,B1',hn4,_⟩:=HN3.out.turnT ht
   have HN4:=Lib.hid hn4
   clear ht hn4
   go_wp2_with fail
   go_ret
   rw [HUN3.out]
   exact HN4.out.done _
  ·have hri:((rc:Int)==0)=false:=by rw [beq_eq_false_iff_ne];omega
   have HUN3:Hid (St.unlink s q=(rc,s)):=by show _=_;rw [HUN2.out,if_pos hr]
   clear hr
   go_wp2_with fail
   go_ret
   rw [HUN3.out]
   exact HN3.out.done _
 ·have hci:((lc:Int)==0)=false:=by rw [beq_eq_false_iff_ne];omega
  have HUN2:Hid (St.unlink s q=(lc,s)):=by show _=_;rw [HUN.out,if_pos hc]
  clear hc
  go_wp2_with fail
  go_ret
  rw [HUN2.out]
  exact HN2.out.done _
end Sm
end Go.Proofs.YtbnpgakmhhfjkaaGreatDoor
namespace Go.Proofs.YtbnpgakmhhfjkaaGreatDoor
open Go.RowKit Rc
open Tr (Nm En T)
open Tm (tobj)
open St (alone)
namespace Sm
variable {w w':World}
set_option maxHeartbeats 4000000 in
set_option maxRecDepth 100000 in
theorem alone_any (A:Option Addr) (b:Bs) (cap:Nat) (hr:Rd w A b) (hl:b.length≤4096) :
    Calls Tryz.prog 97 #[.slice A b.length cap] w fun e w'=>∃ q B,e=.returned (.agg #[.pointer (some ⟨q,0,none⟩),.int .i64 1,.bool false])∧tobj.At (.pointer (some ⟨q,0,none⟩)) (alone b) B w'∧Below w.heap.size w w'∧∀ x,B x→w.heap.size≤x:=by
 obtain ⟨W0,hW0⟩:∃ W0,W0=w.alloc (.cells #[.pointer none,.int .i64 0,.bool false] 71):=⟨_,rfl⟩
 obtain ⟨g,hg⟩:∃ g,g=w.heap.size:=⟨_,rfl⟩
 have HZ0:Hid (Blk W0 g 71 [.pointer none,.int .i64 0,.bool false]):=by show Blk _ _ _ _;rw [hW0,hg];exact Blk.new w _ _
 have HB0:Hid (Below w.heap.size w W0):=by show Below _ _ _;rw [hW0];exact below_new w _
 have HGG:Hid (g=w.heap.size):=hg
 have HR:=Lib.hid hr
 have HTN:=Lib.hid (t_new W0)
 obtain ⟨bl,hbl⟩:∃ bl,bl=b.length:=⟨_,rfl⟩
 have HAP:Hid (∀ W B t v,tobj.At v t B W→Tr.Good t→Rd W A b→Calls Tryz.prog 99 #[v,.int .i64 1,.slice A bl cap] W (Ob.Turns tobj v (Tr.append t 1 b).2 (.int .i64 ((Tr.append t 1 b).1:Nat)) B W)):=fun W B t v h1 h2 h3=>by
  rw [hbl]
  exact t_append h1 h2 1 A b cap h3 (Nat.le_trans hl (by decide))
 rw [← hbl]
 clear hr hl hbl
 go_enter Tryz.func97,Tryz.ntmps97
 go_upto_region 1 with (fail)
 rw [← hW0,← hg]
 clear hW0 hg
 go_wp2_with fail
 refine HTN.out.mono ?_
 rintro e w1 ⟨q,B,rfl,hT,hb1,hup⟩
 have HT:=Lib.hid hT
 have HB1:Hid (Below w.heap.size w w1):=HB0.out.trans (hb1.mono HB0.out.size)
 have HUP:Hid (∀ x,B x→w.heap.size<x):=fun x hx=>Nat.lt_of_lt_of_le (by have:=HZ0.out.lt;have:=HGG.out;omega) (hup x hx)
 have HZ1:Hid (Blk w1 g 71 [.pointer none,.int .i64 0,.bool false]):=HZ0.out.below hb1 HZ0.out.lt
 clear hT hb1 hup HTN HZ0 HB0
 go_wp2_with fail
 obtain ⟨W2,hW2⟩:∃ W2,W2=w1.alloc (.cells #[.string (strOf [102,105,108,101])] 9):=⟨_,rfl⟩
 have hRD:RdS W2 (some ⟨w1.heap.size,0,none⟩) [[102,105,108,101]]:=by rw [hW2];exact rds_one w1 _ _
 have hb2:Below w1.heap.size w1 W2:=by rw [hW2];exact below_new w1 _
 have hT2:tobj.At (.pointer (some ⟨q,0,none⟩)) Tr.new B W2:=tobj.keep HT.out hb2.size (fun b hb=>hb2.block b (tobj.lt HT.out b hb))
 have HM:Hid (Calls Tryz.prog 32 #[.pointer (some ⟨q,0,none⟩),.slice (some ⟨w1.heap.size,0,none⟩) 1 1,.int .i64 1] W2 (Ob.Turns tobj (.pointer (some ⟨q,0,none⟩)) (Tr.make Tr.new [[102,105,108,101]] 1).2 (.tuple #[.int .i64 1,.int .i64 0]) B W2)) :=
  t_make hT2 Tr.new_good (q:=[[102,105,108,101]]) (cap:=1) 1 ⟨hRD,by decide,by decide,fun x hx=>by obtain rfl:=List.mem_singleton.1 hx;decide⟩
 have HB2:Hid (Below w.heap.size w W2):=HB1.out.trans (hb2.mono HB1.out.size)
 have HZ2:Hid (Blk W2 g 71 [.pointer none,.int .i64 0,.bool false]):=HZ1.out.below hb2 HZ1.out.lt
 change Calls _ _ _ (w1.alloc (.cells #[.string (strOf [102,105,108,101])] 9)) _
 rw [← hW2]
 clear hW2 hRD hb2 hT2
 refine HM.out.mono ?_
 rintro e w3 ⟨rfl,B3,h31,h32,h33⟩
 have HUP3:Hid (∀ x,B3 x→w.heap.size<x):=fun x hx=>(h33 x hx).elim (HUP.out x) (fun h9=>Nat.lt_of_lt_of_le (Nat.lt_of_lt_of_le (by have:=HZ2.out.lt;have:=HGG.out;omega) h9) (Nat.le_refl _))
 have HB3:Hid (Below w.heap.size w w3):=Ob.low_more HB2.out h32 fun x hx=>Nat.le_of_lt (HUP.out x hx)
 have HZ3:Hid (Blk w3 g 71 [.pointer none,.int .i64 0,.bool false]):=(h32.block g HZ2.out.lt (fun h9=>by have:=HUP.out g h9;have:=HGG.out;omega)).trans HZ2.out
 have HA:=Lib.hid (HAP.out w3 B3 _ _ h31 (Tr.make_good Tr.new_good _ _) (HR.out.below HB3.out))
 clear h31 h32 h33 HM
 go_wp2_with fail
 refine HA.out.mono ?_
 rintro e w4 ⟨rfl,B4,h41,h42,h43⟩
 have HT4:=Lib.hid h41
 have HUP4:Hid (∀ x,B4 x→w.heap.size<x):=fun x hx=>(h43 x hx).elim (HUP3.out x) (fun h9=>Nat.lt_of_lt_of_le (by have:=HZ3.out.lt;have:=HGG.out;omega) h9)
 have HB4:Hid (Below w.heap.size w w4):=Ob.low_more HB3.out h42 fun x hx=>Nat.le_of_lt (HUP3.out x hx)
 have HZ4:Hid (Blk w4 g 71 [.pointer none,.int .i64 0,.bool false]):=(h42.block g HZ3.out.lt (fun h9=>by have:=HUP3.out g h9;have:=HGG.out;omega)).trans HZ3.out
 clear h41 h42 h43 HA
 have g0:=HZ4.out.cell 0
 have g1:=HZ4.out.cell 1
 have g2:=HZ4.out.cell 2
 have e0:=HZ4.out.frozen 0
 have e1:=HZ4.out.frozen 1
 have e2:=HZ4.out.frozen 2
 go_wp2_with fail
 refine bodyPost_ret (results_blk rfl _ _ g 71 [.pointer (some ⟨q,0,none⟩),.int .i64 1,.bool false] _ rfl (Sn.set3_blk HZ4.out _ _ _) rfl rfl rfl) rfl ?_
 have hmg:Below w4.heap.size w4 w4:=Below.refl _ _
 refine ⟨q,B4,rfl,?_,Sn.set3_below HB4.out (Nat.le_of_eq HGG.out.symm) _ _ _,fun x hx=>Nat.le_of_lt (HUP4.out x hx)⟩
 refine tobj.keep HT4.out (by simp [World.setCell]) fun x hx=>?_
 have hne:x≠g:=fun e9=>by
  have:=HUP4.out x hx
  have:=HGG.out
  omega
 rw [Below.heap_setCell _ ⟨g,2,none⟩ _ x hne,Below.heap_setCell _ ⟨g,1,none⟩ _ x hne,Below.heap_setCell _ ⟨g,0,none⟩ _ x hne]
end Sm
end Go.Proofs.YtbnpgakmhhfjkaaGreatDoor
