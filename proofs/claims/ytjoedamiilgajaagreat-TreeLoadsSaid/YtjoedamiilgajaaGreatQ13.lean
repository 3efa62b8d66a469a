/-
  OWN WORK. TrUnlink, TrRmdir, TrList, TrHang, TrWalk, TrWalkP, TrWalkN, TrHigh, TrRename, TrObjB
-/
import Derived.Test.YtjoedamiilgajaaGreatQ12
import Derived.Test.YtjoedamiilgajaaGreatQ06
import Derived.Test.YtjoedamiilgajaaGreatQ05
import Derived.Test.YtjoedamiilgajaaGreatQ03
import Derived.Test.YtjoedamiilgajaaGreatQ02
import Derived.Deep.RegionHeld3
set_option maxHeartbeats 8000000
namespace Go.Proofs.YtjoedamiilgajaaGreat
open Go.RowKit Rc
open Tr (Nm En T)
namespace Tm
variable {p:Nat} {av:Value} {gs:List Nat} {S:Nat→Prop} {t t1:T} {w w1:World}
set_option maxRecDepth 100000 in
theorem unlink_any (h:TIn p av gs S t w) (hG:Tr.Good t) (A:Option Addr) (q:List Bs) (cap:Nat) (hr:RdS w A q) (hc:q.length≤cap) (hl:q.length≤1000000) (hs:∀ s ∈ q,s.length≤1000000) :
    Calls Tryz.prog 15 #[.pointer (some ⟨p,0,none⟩),.slice A q.length cap] w (TTurn p (Tr.unlink t q).2 (.int .i64 ((Tr.unlink t q).1:Nat)) (TrS p av S) w):=by
 obtain ⟨wa,hwa⟩:∃ wa,wa=w.alloc (.cells #[.slice A q.length cap] 26):=⟨_,rfl⟩
 have hba:Below w.heap.size w wa:=by rw [hwa];exact bN w _
 have HFM:=Lib.hid (formed_one w A q cap hr hc hl hs)
 rw [← hwa] at HFM
 have HS:Hid (∀ x W,Below w.heap.size w W→TTurn p t x (TrS p av S) w (.returned x) W):=fun x W hW=>TTurn.stay h hW
 have HFA:=Lib.hid (fileAt_any (h.below hba) hG A q cap (hr.below hba) hl)
 have HPL:=Lib.hid (fun W (hW:Below w.heap.size w W)=>place_any (h.below hW) hG A q cap (hr.below hW) hc hl)
 have HBA:=Lib.hid hba
 have H:=Lib.hid h
 have HG:=Lib.hid hG
 obtain ⟨R,hR⟩:∃ R,R=Tr.unlink t q:=⟨_,rfl⟩
 rw [← hR]
 obtain ⟨fm,hfm⟩:∃ fm,fm=Tr.formed q:=⟨_,rfl⟩
 rw [← hfm] at HFM
 have hR1:R=if fm≠0 then (fm,t) else if (Tr.lF t 0 q).2≠0 then ((Tr.lF t 0 q).2,t)
     else if Tr.kindOf t (Tr.lF t 0 q).1=2 then (22,t)
     else if (Tr.ndOf t (Tr.lF t 0 q).1).links=1∧(Tr.ndOf t (Tr.lF t 0 q).1).shut=true then (0,Tr.remove (Tr.unlinked t q) (Tr.lF t 0 q).1)
     else (0,Tr.unlinked t q):=by
  rw [hR,hfm];rfl
 have HR1:=Lib.hid hR1
 have HSM:=Lib.hid hs
 clear h hG hr hba hfm hs hR hR1
 go_enter Tryz.func15,Tryz.ntmps15
 go_wp2_with fail
 rw [← hwa]
 clear hwa
 refine HFM.out.mono ?_
 rintro e w1 ⟨rfl,rfl⟩
 by_cases hf:fm=0
 case neg =>
  have hfi:((fm:Int)==0)=false:=by rw [beq_eq_false_iff_ne];omega
  have HN:Hid (R=(fm,t)):=by
   have:=HR1.out
   rw [if_pos hf] at this
   exact this
  clear hf
  go_wp2_with fail
  go_ret
  rw [HN.out]
  exact HS.out _ _ HBA.out
 subst hf
 have HR2:=Lib.hid HR1.out
 simp only [ne_eq,not_true_eq_false,if_false] at HR2
 clear HR1
 go_wp2_with fail
 refine HFA.out.mono ?_
 rintro e w2 ⟨rfl,hb2⟩
 have HB2:Hid (Below w.heap.size w w2):=HBA.out.trans (hb2.mono HBA.out.size)
 clear hb2
 by_cases hfa:fileAtN t q=0
 case neg =>
  obtain ⟨n,hn⟩:∃ n,n=fileAtN t q:=⟨_,rfl⟩
  have HN:Hid (R=(n,t)):=by
   have:=HR2.out
   unfold fileAtN at hn hfa
   by_cases h1:(Tr.lF t 0 q).2=0
   ·rw [if_neg (by rw [h1];simp)] at hn hfa this
    split at hfa
    ·rename_i h2
     rw [if_pos h2] at hn this
     rw [hn];exact this
    ·exact absurd rfl hfa
   ·rw [if_pos h1] at hn this
    rw [hn];exact this
  unfold fileAtV
  rw [← hn] at hfa ⊢
  rw [if_neg hfa]
  have hni:((n:Int)==0)=false:=by rw [beq_eq_false_iff_ne];omega
  clear hfa hn
  go_wp2_with fail
  go_ret
  rw [HN.out]
  exact HS.out _ _ HB2.out
 obtain ⟨h1,h2⟩:(Tr.lF t 0 q).2=0∧Tr.kindOf t (Tr.lF t 0 q).1≠2:=by
  unfold fileAtN at hfa
  split at hfa
  ·rename_i h1;exact absurd hfa h1
  ·rename_i h1
   split at hfa
   ·cases hfa
   ·rename_i h2;exact ⟨Decidable.byContradiction h1,h2⟩
 obtain ⟨ef,hef⟩:=Option.isSome_iff_exists.1 (HG.out.look_is h1)
 obtain ⟨i,hi⟩:∃ i,i=(Tr.lF t 0 q).1:=⟨_,rfl⟩
 have hlk:Tr.lF t 0 q=(i,0):=Prod.ext hi.symm h1
 obtain ⟨gf,Sf,hpf,hEf,_,_⟩:=(H.out.below HB2.out).ptr HG.out hef
 have hR3:=HR2.out
 rw [if_neg (by rw [h1];simp),if_neg h2] at hR3
 rw [← hi] at hef hpf hR3 h2
 rw [Tr.ndOf_of hef] at hR3
 have HV:Hid (fileAtV gs t q (fileAtN t q)=.tuple #[.pointer (some ⟨gf,0,none⟩),.int .i64 0]):=by
  show _=_
  unfold fileAtV
  rw [hfa,if_pos rfl,← hi,hpf];rfl
 rw [HV.out]
 rw [Tr.kO hef] at h2
 have hq0:q≠[]:=fun e=>by
  rw [e] at hlk
  obtain ⟨r0,z1,z2,_⟩:=HG.out.zero
  have e0:(0:Int)=i:=congrArg Prod.fst (show ((0:Int),0)=(i,0) from hlk)
  rw [← e0,z1] at hef
  injection hef with hef
  exact h2 (by rw [← hef];exact z2)
 obtain ⟨r1,x,d,en,hq,hlr,hfd,hkd,hg,hpl⟩:=HG.out.looked hlk hq0
 have HEF:=Lib.hid hef
 have HPF:=Lib.hid hpf
 have HK2:=Lib.hid h2
 have HKD:=Lib.hid hkd
 have HFD:=Lib.hid hfd
 have HPL2:=Lib.hid hpl
 have hu:Tr.unlinked t q=Tr.more (Tr.cut t d x) i (-1):=by
  unfold Tr.unlinked
  rw [hpl,← hi]
 rw [hu] at hR3
 have HR3:=Lib.hid hR3
 clear hfa h1 h2 hef hi hpf hEf hR3 HV HR2 hlk hq0 hq hlr hfd hkd hg hpl hu
 go_wp2_with fail
 refine (HPL.out w2 HB2.out).mono ?_
 rintro e w3 ⟨rfl,hb3⟩
 have HB3:Hid (Below w.heap.size w w3):=HB2.out.trans (hb3.mono HB2.out.size)
 clear hb3
 obtain ⟨gd,Sd,hpd,hEd,_,hnl⟩:=(H.out.below HB3.out).ptr HG.out HFD.out
 have HPV:Hid (placeV gs t q=.tuple #[.pointer (some ⟨gd,0,none⟩),.string (strOf x),.int .i64 0]):=by
  show _=_
  unfold placeV
  rw [HPL2.out]
  simp only [if_true,hpd];rfl
 rw [HPV.out]
 have hW:=Went.start H.out HB3.out
 have hid:ef.nd.id=i:=(Tr.find_some HEF.out).2
 have HDROP:=Lib.hid (hW.drop HG.out.ris HFD.out hpd x (by omega))
 have hdi:i≠d:=fun e=>by
  have h1:=HFD.out
  rw [← e,show Tr.find t i=_ from HEF.out] at h1
  injection h1 with h1
  exact HK2.out (by rw [h1];exact HKD.out)
 have HDI:=Lib.hid hdi
 have HID:=Lib.hid hid
 have hlk:=(HG.out.each ef (Tr.find_some HEF.out).1).nd
 have hl0:0≤ef.nd.links∧ef.nd.links≤65535:=⟨hlk.2.2.1,hlk.2.2.2.1⟩
 obtain ⟨lk,hlk2⟩:∃ lk,lk=ef.nd.links:=⟨_,rfl⟩
 obtain ⟨sh,hsh⟩:∃ sh,sh=ef.nd.shut:=⟨_,rfl⟩
 obtain ⟨lm,hlm⟩:∃ lm,lm=lk-1:=⟨_,rfl⟩
 have HLK:=Lib.hid hlk2
 have HSH:=Lib.hid hsh
 have HR4:=Lib.hid HR3.out
 rw [← hlk2,← hsh] at HR4
 rw [← hlk2] at hl0
 have wl:IntKind.i64.wrap (lk-1)=lm:=by rw [IntKind.wrap_i64];omega
 have hll:(lm=0)=(lk=1):=by rw [hlm];apply propext;omega
 have HLL:=Lib.hid hll
 have HLM:Hid (lk+-1=lm):=by show _=_;omega
 clear hW hid hdi hlk hlk2 hsh hpd hEd hnl hlm hll HPV HR3
 go_wp2_with fail
 refine HDROP.out.mono ?_
 rintro e w5 ⟨rfl,hW5⟩
 have hfid:∀ e:En,({ e with names:=Tr.del e.names x }:En).nd.id=e.nd.id:=fun _=>rfl
 have hr5:Tr.Ris (Tr.cut t d x):=Tr.upd_ris HG.out.ris hfid
 have hf5:Tr.find (Tr.cut t d x) i=some ef:=by
  unfold Tr.cut
  rw [Tr.find_upd hfid,HEF.out]
  simp only [Option.map_some,if_neg HDI.out]
 have hp5:ptrOf gs (Tr.cut t d x) i=.pointer (some ⟨gf,0,none⟩):=by
  unfold Tr.cut
  rw [ptrOf_upd hfid];exact HPF.out
 obtain ⟨_,c2,_,f2,hmore⟩:=hW5.links hr5 hf5 hp5
 have hmo:=hmore (-1)
 rw [show ef.nd.links=lk from HLK.out.symm] at c2 hmo
 rw [HLM.out] at hmo
 have hfid6:∀ e:En,({ e with nd:={ e.nd with links:=e.nd.links+-1 } }:En).nd.id=e.nd.id:=fun _=>rfl
 have hr6:Tr.Ris (Tr.more (Tr.cut t d x) i (-1)):=Tr.upd_ris hr5 hfid6
 have hf6:Tr.find (Tr.more (Tr.cut t d x) i (-1)) i=some { ef with nd:={ ef.nd with links:=ef.nd.links+-1 } }:=by
  unfold Tr.more
  rw [Tr.find_upd hfid6,hf5]
  simp only [Option.map_some,if_true]
 have hp6:ptrOf gs (Tr.more (Tr.cut t d x) i (-1)) i=.pointer (some ⟨gf,0,none⟩):=by
  unfold Tr.more
  rw [ptrOf_upd hfid6];exact hp5
 obtain ⟨d0,d2,d5,_,_⟩:=hmo.links hr6 hf6 hp6
 simp only [show ef.nd.links=lk from HLK.out.symm,show ef.nd.id=i from HID.out,show ef.nd.shut=sh from HSH.out.symm] at d0 d2 d5
 rw [HLM.out] at d2
 have hlen:(Tr.more (Tr.cut t d x) i (-1)).length≤1000000:=by
  unfold Tr.more Tr.cut Tr.upd
  rw [List.length_map,List.length_map]
  have:=HG.out.few
  omega
 have HRM:=Lib.hid (hmo.remove hr6 hlen hf6 (.int .i64 0))
 have HMO:=Lib.hid hmo
 clear hW5 hr5 hf5 hp5 hmore hmo hfid hr6 hf6 hp6 hfid6 hlen
 by_cases hz:lm=0
 ·have hl1:Hid (lk=1):=HLL.out.mp hz
  clear HLL HLM
  subst hz
  cases sh
  ·have HN:Hid (R=(0,Tr.more (Tr.cut t d x) i (-1))):=by
    have:=HR4.out
    rw [if_neg (by simp)] at this
    exact this
   go_wp2_with fail
   go_ret
   rw [HN.out]
   exact HMO.out.done _
  ·have HN:Hid (R=(0,Tr.remove (Tr.more (Tr.cut t d x) i (-1)) i)):=by
    have:=HR4.out
    rw [if_pos ⟨hl1.out,rfl⟩] at this
    exact this
   go_wp2_with fail
   refine HRM.out.mono ?_
   rintro e w7 ⟨rfl,HT7⟩
   have HTH:=Lib.hid HT7
   clear HT7
   go_wp2_with fail
   go_ret
   rw [HN.out]
   exact HTH.out
 ·have HN:Hid (R=(0,Tr.more (Tr.cut t d x) i (-1))):=by
   have:=HR4.out
   rw [if_neg (fun e=>hz (HLL.out.mpr e.1))] at this
   exact this
  have hzb:(lm==0)=false:=by rw [beq_eq_false_iff_ne];exact hz
  clear hz HLL HLM
  go_wp2_with fail
  go_ret
  rw [HN.out]
  exact HMO.out.done _
end Tm
end Go.Proofs.YtjoedamiilgajaaGreat
namespace Go.Proofs.YtjoedamiilgajaaGreat
open Go.RowKit Rc
open Tr (Nm En T)
namespace Tr
theorem lookF_no {t:T}:∀ (p:List Bs) (i:Int),(lF t i p).2≠0→(lF t i p).1=0
 | [],i,h=>absurd rfl h
 | x :: p,i,h=>by
   unfold lF at h ⊢
   by_cases h1:kindOf t i=2
   ·rw [if_neg (by simp [h1])] at h ⊢
    cases hg:get (kids t i) x with
    | none=>rfl
    | some k =>
      rw [hg] at h
      exact lookF_no p k h
   ·rw [if_pos h1]
end Tr
namespace Tm
variable {p:Nat} {av:Value} {gs:List Nat} {S:Nat→Prop} {t t1:T} {w w1:World}
set_option maxRecDepth 100000 in
theorem rmdir_any (h:TIn p av gs S t w) (hG:Tr.Good t) (A:Option Addr) (q:List Bs) (cap:Nat) (hr:RdS w A q) (hc:q.length≤cap) (hl:q.length≤1000000) (hs:∀ s ∈ q,s.length≤1000000) :
    Calls Tryz.prog 11 #[.pointer (some ⟨p,0,none⟩),.slice A q.length cap] w (TTurn p (Tr.rmdir t q).2 (.int .i64 ((Tr.rmdir t q).1:Nat)) (TrS p av S) w):=by
 obtain ⟨wa,hwa⟩:∃ wa,wa=w.alloc (.cells #[.slice A q.length cap] 26):=⟨_,rfl⟩
 have hba:Below w.heap.size w wa:=by rw [hwa];exact bN w _
 have HFM:=Lib.hid (formed_one w A q cap hr hc hl hs)
 rw [← hwa] at HFM
 have HS:Hid (∀ x W,Below w.heap.size w W→TTurn p t x (TrS p av S) w (.returned x) W):=fun x W hW=>TTurn.stay h hW
 have HAT:=Lib.hid (at_any (h.below hba) hG A q cap (hr.below hba) hl)
 have HPL:=Lib.hid (fun W (hW:Below w.heap.size w W)=>place_any (h.below hW) hG A q cap (hr.below hW) hc hl)
 have HBA:=Lib.hid hba
 have H:=Lib.hid h
 have HG:=Lib.hid hG
 obtain ⟨R,hR⟩:∃ R,R=Tr.rmdir t q:=⟨_,rfl⟩
 rw [← hR]
 obtain ⟨fm,hfm⟩:∃ fm,fm=Tr.formed q:=⟨_,rfl⟩
 rw [← hfm] at HFM
 have hR1:R=if fm≠0 then (fm,t) else if (Tr.lF t 0 q).2≠0 then ((Tr.lF t 0 q).2,t)
     else if Tr.kindOf t (Tr.lF t 0 q).1≠2 then (23,t) else if q=[] then (1,t)
     else if Tr.kids t (Tr.lF t 0 q).1≠[] then (24,t)
     else (0,Tr.remove (Tr.cut t (Tr.place t q).1 (Tr.place t q).2.1) (Tr.lF t 0 q).1):=by
  rw [hR,hfm];rfl
 have HR1:=Lib.hid hR1
 clear h hG hr hba hfm hs hR hR1
 go_enter Tryz.func11,Tryz.ntmps11
 go_wp2_with fail
 rw [← hwa]
 clear hwa
 refine HFM.out.mono ?_
 rintro e w1 ⟨rfl,rfl⟩
 by_cases hf:fm=0
 case neg =>
  have hfi:((fm:Int)==0)=false:=by rw [beq_eq_false_iff_ne];omega
  have HN:Hid (R=(fm,t)):=by
   have:=HR1.out
   rw [if_pos hf] at this
   exact this
  clear hf
  go_wp2_with fail
  go_ret
  rw [HN.out]
  exact HS.out _ _ HBA.out
 subst hf
 have HR2:=Lib.hid HR1.out
 simp only [ne_eq,not_true_eq_false,if_false] at HR2
 clear HR1
 go_wp2_with fail
 refine HAT.out.mono ?_
 rintro e w2 ⟨rfl,hb2⟩
 have HB2:Hid (Below w.heap.size w w2):=HBA.out.trans (hb2.mono HBA.out.size)
 clear hb2
 by_cases hfa:(Tr.lF t 0 q).2=0
 case neg =>
  obtain ⟨n,hn⟩:∃ n,n=(Tr.lF t 0 q).2:=⟨_,rfl⟩
  have HN:Hid (R=(n,t)):=by
   have:=HR2.out
   rw [if_pos hfa] at this
   rw [hn];exact this
  have hpp:ptrAt gs t q=.pointer none:=by unfold ptrAt;rw [if_neg hfa]
  rw [← hn] at hfa
  rw [hpp,← hn]
  have hni:((n:Int)==0)=false:=by rw [beq_eq_false_iff_ne];omega
  clear hfa hn hpp
  go_wp2_with fail
  go_ret
  rw [HN.out]
  exact HS.out _ _ HB2.out
 obtain ⟨ef,hef⟩:=Option.isSome_iff_exists.1 (HG.out.look_is hfa)
 obtain ⟨i,hi⟩:∃ i,i=(Tr.lF t 0 q).1:=⟨_,rfl⟩
 have hlk:Tr.lF t 0 q=(i,0):=Prod.ext hi.symm hfa
 have hpp:ptrAt gs t q=ptrOf gs t (Tr.lF t 0 q).1:=by unfold ptrAt;rw [if_pos hfa]
 have hR3:=HR2.out
 rw [if_neg (by rw [hfa];simp)] at hR3
 rw [hpp,hfa]
 rw [← hi] at hef hR3 ⊢
 obtain ⟨gf,Sf,hpf,hEf,_,_⟩:=(H.out.below HB2.out).ptr HG.out hef
 have c1:=hEf.cells.2.1
 rw [Tr.kO hef,Tr.kids_of hef] at hR3
 rw [hpf]
 obtain ⟨ek,hek⟩:∃ ek,ek=ef.nd.kind:=⟨_,rfl⟩
 rw [← hek] at c1 hR3
 have HR3:=Lib.hid hR3
 have HEF:=Lib.hid hef
 have HPF:=Lib.hid hpf
 have HLK:=Lib.hid hlk
 clear hfa hef hi hpf hEf hR3 HR2 hlk hpp hek
 by_cases h2:ek=2
 case neg =>
  have hk2:(ek != 2)=true:=by rw [bne_iff_ne];exact h2
  have HN:Hid (R=(23,t)):=by
   have:=HR3.out
   rw [if_pos h2] at this
   exact this
  clear h2
  go_wp2_with fail
  go_ret
  rw [HN.out]
  exact HS.out _ _ HB2.out
 subst h2
 have HR4:=Lib.hid HR3.out
 simp only [ne_eq,not_true_eq_false,if_false] at HR4
 clear HR3
 go_wp2_with fail
 refine (HPL.out w2 HB2.out).mono ?_
 rintro e w3 ⟨rfl,hb3⟩
 have HB3:Hid (Below w.heap.size w w3):=HB2.out.trans (hb3.mono HB2.out.size)
 clear hb3 c1
 by_cases hq0:q=[]
 case pos =>
  subst hq0
  have hpv:placeV gs t []=.tuple #[.pointer none,.string (strOf []),.int .i64 1]:=by
   unfold placeV Tr.place
   rfl
  rw [hpv]
  have HN:Hid (R=(1,t)):=by
   have:=HR4.out
   rw [if_pos rfl] at this
   exact this
  clear hpv
  go_wp2_with fail
  go_ret
  rw [HN.out]
  exact HS.out _ _ HB3.out
 obtain ⟨r1,x,d,en,hq,hlr,hfd,hkd,hg,hpl⟩:=HG.out.looked HLK.out hq0
 have hR5:=HR4.out
 rw [if_neg hq0,hpl] at hR5
 simp only at hR5
 obtain ⟨gd,Sd,hpd,hEd,_,hnl⟩:=(H.out.below HB3.out).ptr HG.out hfd
 have hpv:placeV gs t q=.tuple #[.pointer (some ⟨gd,0,none⟩),.string (strOf x),.int .i64 0]:=by
  unfold placeV
  rw [hpl]
  simp only [if_true,hpd];rfl
 rw [hpv]
 have hW:=Went.start H.out HB3.out
 have HDROP:=Lib.hid (hW.drop HG.out.ris hfd hpd x (by omega))
 obtain ⟨gf2,Sf2,hpf2,hEf2,_,hnf⟩:=(H.out.below HB3.out).ptr HG.out HEF.out
 obtain rfl:gf2=gf:=ptr_inj (hpf2.symm.trans HPF.out)
 obtain ⟨dv,nv,hE,rfl⟩:=hEf2
 have c7:w3.cell? ⟨gf2,7,none⟩=some nv:=hE.box.cell 7
 obtain ⟨A7,k7,hv7,hk7,_⟩:=hE.names.form
 subst hv7
 obtain ⟨nl,hnl2⟩:∃ nl,nl=ef.names.length:=⟨_,rfl⟩
 rw [← hnl2] at c7
 have hnil:(ef.names=[])=(nl=0):=by rw [hnl2,List.length_eq_zero_iff]
 simp only [hnil] at hR5
 have HR5:=Lib.hid hR5
 have hfid:∀ e:En,({ e with names:=Tr.del e.names x }:En).nd.id=e.nd.id:=fun _=>rfl
 have hne:∃ e5,Tr.find (Tr.cut t d x) i=some e5∧e5.nd.id=i:=by
  unfold Tr.cut
  rw [Tr.find_upd hfid,HEF.out]
  refine ⟨_,rfl,?_⟩
  have:=(Tr.find_some HEF.out).2
  dsimp only
  split <;> exact this
 have HNE:=Lib.hid hne
 have hr5:Tr.Ris (Tr.cut t d x):=Tr.upd_ris HG.out.ris hfid
 have HR6:=Lib.hid hr5
 have hp5:ptrOf gs (Tr.cut t d x) i=.pointer (some ⟨gf2,0,none⟩):=by
  unfold Tr.cut
  rw [ptrOf_upd hfid];exact HPF.out
 have HP5:=Lib.hid hp5
 have HLEN:Hid ((Tr.cut t d x).length≤1000000):=by
  have:=HG.out.few
  show _≤_
  unfold Tr.cut Tr.upd
  rw [List.length_map]
  omega
 clear hq0 hq hlr hfd hkd hg hpl hpd hEd hnl hpv hW hpf2 hnf hE hk7 hnl2 hnil hR5 hfid hne hr5 hp5 HR4
 by_cases hz:nl=0
 case neg =>
  have hz2:(0:Int)<(nl:Int):=by omega
  have HN:Hid (R=(24,t)):=by
   have:=HR5.out
   rw [if_pos hz] at this
   exact this
  clear hz
  go_wp2_with fail
  go_ret
  rw [HN.out]
  exact HS.out _ _ HB3.out
 have HN:Hid (R=(0,Tr.remove (Tr.cut t d x) i)):=by
  have:=HR5.out
  rw [if_neg (by simp [hz])] at this
  exact this
 subst hz
 clear HR5
 go_wp2_with fail
 refine HDROP.out.mono ?_
 rintro e w5 ⟨rfl,hW5⟩
 obtain ⟨e5,hf5,hid5⟩:=HNE.out
 obtain ⟨c0,_⟩:=hW5.links HR6.out hf5 HP5.out
 rw [hid5] at c0
 have HRM:=Lib.hid (hW5.remove HR6.out HLEN.out hf5 (.int .i64 0))
 clear hW5 hf5 hid5 c7
 go_wp2_with fail
 refine HRM.out.mono ?_
 rintro e w7 ⟨rfl,HT7⟩
 have HTH:=Lib.hid HT7
 clear HT7
 go_wp2_with fail
 go_ret
 rw [HN.out]
 exact HTH.out
set_option maxRecDepth 100000 in
theorem look_any (h:TIn p av gs S t w) (hG:Tr.Good t) (A:Option Addr) (q:List Bs) (cap:Nat) (hr:RdS w A q) (hc:q.length≤cap) (hl:q.length≤1000000) (hs:∀ s ∈ q,s.length≤1000000) :
    Calls Tryz.prog 86 #[.pointer (some ⟨p,0,none⟩),.slice A q.length cap] w fun e w'=>e=.returned (.tuple #[.int .i64 (Tr.look t q).1,.int .i64 ((Tr.look t q).2:Nat)])∧Below w.heap.size w w':=by
 obtain ⟨wa,hwa⟩:∃ wa,wa=w.alloc (.cells #[.slice A q.length cap] 26):=⟨_,rfl⟩
 have hba:Below w.heap.size w wa:=by rw [hwa];exact bN w _
 have HFM:=Lib.hid (formed_one w A q cap hr hc hl hs)
 rw [← hwa] at HFM
 have HAT:=Lib.hid (at_any (h.below hba) hG A q cap (hr.below hba) hl)
 have HBA:=Lib.hid hba
 have H:=Lib.hid h
 have HG:=Lib.hid hG
 obtain ⟨R,hR⟩:∃ R,R=Tr.look t q:=⟨_,rfl⟩
 rw [← hR]
 obtain ⟨fm,hfm⟩:∃ fm,fm=Tr.formed q:=⟨_,rfl⟩
 rw [← hfm] at HFM
 have hR1:R=if fm≠0 then (0,fm) else Tr.lF t 0 q:=by rw [hR,hfm];rfl
 have HR1:=Lib.hid hR1
 clear h hG hr hba hfm hs hR hR1
 go_enter Tryz.func86,Tryz.ntmps86
 go_wp2_with fail
 rw [← hwa]
 clear hwa
 refine HFM.out.mono ?_
 rintro e w1 ⟨rfl,rfl⟩
 by_cases hf:fm=0
 case neg =>
  have hfi:((fm:Int)==0)=false:=by rw [beq_eq_false_iff_ne];omega
  have HN:Hid (R=(0,fm)):=by
   have:=HR1.out
   rw [if_pos hf] at this
   exact this
  clear hf
  go_wp2_with fail
  go_ret2
  rw [HN.out]
  exact ⟨rfl,HBA.out⟩
 subst hf
 have HR2:=Lib.hid HR1.out
 simp only [ne_eq,not_true_eq_false,if_false] at HR2
 clear HR1
 go_wp2_with fail
 refine HAT.out.mono ?_
 rintro e w2 ⟨rfl,hb2⟩
 have HB2:Hid (Below w.heap.size w w2):=HBA.out.trans (hb2.mono HBA.out.size)
 clear hb2
 by_cases hfa:(Tr.lF t 0 q).2=0
 case neg =>
  obtain ⟨n,hn⟩:∃ n,n=(Tr.lF t 0 q).2:=⟨_,rfl⟩
  have HN:Hid (R=(0,n)):=by
   show _=_
   rw [HR2.out,hn]
   exact Prod.ext (Tr.lookF_no q 0 hfa) rfl
  have hpp:ptrAt gs t q=.pointer none:=by unfold ptrAt;rw [if_neg hfa]
  rw [← hn] at hfa
  rw [hpp,← hn]
  have hni:((n:Int)==0)=false:=by rw [beq_eq_false_iff_ne];omega
  clear hfa hn hpp
  go_wp2_with fail
  go_ret2
  rw [HN.out]
  exact ⟨rfl,HB2.out⟩
 obtain ⟨ef,hef⟩:=Option.isSome_iff_exists.1 (HG.out.look_is hfa)
 obtain ⟨i,hi⟩:∃ i,i=(Tr.lF t 0 q).1:=⟨_,rfl⟩
 have HN:Hid (R=(i,0)):=by
  show _=_
  rw [HR2.out]
  exact Prod.ext hi.symm hfa
 have hpp:ptrAt gs t q=ptrOf gs t (Tr.lF t 0 q).1:=by unfold ptrAt;rw [if_pos hfa]
 rw [hpp,hfa]
 rw [← hi] at hef ⊢
 obtain ⟨gf,Sf,hpf,hEf,_,_⟩:=(H.out.below HB2.out).ptr HG.out hef
 have c0:=hEf.cells.1
 rw [(Tr.find_some hef).2] at c0
 rw [hpf]
 clear hfa hef hi hpf hEf hpp HR2
 go_wp2_with fail
 go_ret2
 rw [HN.out]
 exact ⟨rfl,HB2.out⟩
end Tm
end Go.Proofs.YtjoedamiilgajaaGreat
namespace Go.Proofs.YtjoedamiilgajaaGreat
open Go.RowKit Rc
open Tr (Nm En T)
namespace Tm
variable {p:Nat} {av:Value} {gs:List Nat} {S:Nat→Prop} {t t1:T} {w w1:World}
def LAns (l:List Bs) (n:Nat) (w:World) (e:Ending) (w':World):Prop:=∃ x,e=.returned (.tuple #[x,.int .i64 (n:Nat)])∧Go.Proofs.YtjoedamiilgajaaGreat.TAt w.heap.size x l w w'
theorem LAns.none (n:Nat) {w w':World} (hb:Below w.heap.size w w'):LAns [] n w (.returned (.tuple #[.slice none 0 0,.int .i64 (n:Nat)])) w':=⟨_,rfl,(Go.Proofs.YtjoedamiilgajaaGreat.TAt.nil w).below hb⟩
theorem txts_room (w:World) (n:Nat) (hn:n≤5000000):Go.Proofs.YtjoedamiilgajaaGreat.TAt w.heap.size (.slice (some ⟨w.heap.size,0,none⟩) 0 n) [] w (w.alloc (.cells (madeCells #[.string .empty] n) 9)) :=
 ⟨⟨rfl,.inr ⟨w.heap.size,n,madeCells #[.string .empty] n,rfl,Nat.le_refl _,heap_alloc_new w _,Nat.zero_le _,by unfold maxLen;omega,by rw [size_madeCells];omega,rfl⟩⟩,bN w _,rfl⟩
theorem room_run (w:World) (n:Nat) (hn:n≤5000000):(Instr.makeSlice 26 (.int .i64 0) (.int .i64 (n:Nat))).run Tryz.prog w=.ok (.slice (some ⟨w.heap.size,0,none⟩) 0 n) (w.alloc (.cells (madeCells #[.string .empty] n) 9)):=by
 obtain ⟨i,hi,hz,hsize,hby⟩:=info_parts Tryz.infoStr
 have h:=run_make (P:=Tryz.prog) w 26 9 i (.string .empty) Tryz.underlying26 hi hz .i64 .i64 0 (n:Nat) (by omega) (by omega) (by rw [hby];omega) (by omega)
 rw [hsize,Nat.mul_one] at h
 simpa [Value.cells] using h
set_option maxRecDepth 100000 in
theorem list_any (h:TIn p av gs S t w) (hG:Tr.Good t) (i:Int) :
    Calls Tryz.prog 87 #[.pointer (some ⟨p,0,none⟩),.int .i64 i] w (LAns (Tr.list t i).1 (Tr.list t i).2 w):=by
 have HF:=Lib.hid (find_any h i (by have:=hG.few;omega))
 cases hf:Tr.find t i with
 | none =>
   rw [ptrOf_none (Tr.find_none.1 hf)] at HF
   have HN:Hid (Tr.list t i=([],20)):=by
    show _=_
    unfold Tr.list
    rw [hf];rfl
   clear h hG hf
   go_enter Tryz.func87,Tryz.ntmps87
   go_wp2_with fail
   refine HF.out.mono ?_
   rintro e w1 ⟨rfl,rfl⟩
   go_wp2_with fail
   go_ret2
   rw [HN.out]
   exact LAns.none _ (Below.refl _ _)
 | some en =>
   obtain ⟨g,S1,hp,hE,_,hnl⟩:=h.ptr hG hf
   rw [hp] at HF
   have c1:=hE.cells.2.1
   obtain ⟨ek,hek⟩:∃ ek,ek=en.nd.kind:=⟨_,rfl⟩
   rw [← hek] at c1
   by_cases h2:ek=2
   case neg =>
    have hk2:(ek != 2)=true:=by rw [bne_iff_ne];exact h2
    have HN:Hid (Tr.list t i=([],23)):=by
     show _=_
     unfold Tr.list
     rw [hf,if_neg (by simp),Tr.kO hf,if_pos (by rw [← hek];exact h2)]
    clear h hG hf hE hp hek h2 hnl
    go_enter Tryz.func87,Tryz.ntmps87
    go_wp2_with fail
    refine HF.out.mono ?_
    rintro e w1 ⟨rfl,rfl⟩
    go_wp2_with fail
    go_ret2
    rw [HN.out]
    exact LAns.none _ (Below.refl _ _)
   case pos =>
    have HN:Hid (Tr.list t i=(en.names.map (·.1),0)):=by
     show _=_
     unfold Tr.list
     rw [hf,if_neg (by simp),Tr.kO hf,if_neg (by rw [← hek];simp [h2]),Tr.kids_of hf]
    subst h2
    have hfew:en.names.length≤5000000:=by omega
    obtain ⟨dv,nv,hE,rfl⟩:=hE
    have c7:w.cell? ⟨g,7,none⟩=some nv:=hE.box.cell 7
    obtain ⟨A7,k7,hv7,hk7,hA⟩:=hE.names.form
    subst hv7
    obtain ⟨l,hl⟩:∃ l,l=en.names:=⟨_,rfl⟩
    rw [← hl] at c7 hfew HN hA
    have HA:=Lib.hid hA
    have hmk:=room_run w l.length hfew
    have HROOM:=Lib.hid (txts_room w l.length hfew)
    have HB0:Hid (Below w.heap.size w (w.alloc (.cells (madeCells #[.string .empty] l.length) 9))):=bN w _
    have c7':(w.alloc (.cells (madeCells #[.string .empty] l.length) 9)).cell? ⟨g,7,none⟩=some (.slice A7 l.length k7):=(HB0.out.cell (p:=⟨g,7,none⟩) hE.box.lt).trans c7
    clear h hG hf hE hp hek hnl hl hA hk7
    go_enter Tryz.func87,Tryz.ntmps87
    go_wp2_with fail
    refine HF.out.mono ?_
    rintro e w1 ⟨rfl,rfl⟩
    go_wp2_with fail
    clear hmk c7 c7' c1
    go_loopw [7,32] (fun t7 t32 wr=>∃ j:Nat,t32=.int .i64 j∧j≤l.length∧Hid (Go.Proofs.YtjoedamiilgajaaGreat.TAt w1.heap.size t7 ((l.take j).map (·.1)) w1 wr)) (fun _ t32 _=>l.length-(match t32 with|.int _ k=>k.toNat|_=>0))
    case atStart=>exact ⟨0,rfl,Nat.zero_le _,HROOM.out⟩
    case round =>
     obtain ⟨j,rfl,hj,HT⟩:=hrel
     by_cases hk:j<l.length
     ·obtain ⟨n,hn⟩:∃ n,l[j]?=some n:=⟨_,List.getElem?_eq_getElem hk⟩
      obtain ⟨q,rfl,_,_,hql,hcell⟩:=HA.out (by omega)
      have hlow:=HT.out.later
      have c1:wr.cell? ⟨q,j*2,none⟩=some (.string (strOf n.1)):=(hlow.cell (p:=⟨q,j*2,none⟩) hql).trans (hcell j n hn).1
      have c2:wr.cell? ⟨q,j*2+1,none⟩=some (.int .i64 n.2):=(hlow.cell (p:=⟨q,j*2+1,none⟩) hql).trans (hcell j n hn).2
      have hlt2:(j:Int)<(l.length:Int):=by omega
      have htk:(l.take (j+1)).map (·.1)=(l.take j).map (·.1)++[n.1]:=by
       rw [List.take_succ_eq_append_getElem hk,List.map_append]
       rw [List.getElem?_eq_getElem hk] at hn
       injection hn with hn
       rw [hn];rfl
      have HTK:=Lib.hid htk
      have hll:((l.take j).map (·.1)).length+[n.1].length≤68719476736:=by
       rw [List.length_map,List.length_take]
       show _+1≤_
       omega
      have HLL:=Lib.hid hll
      obtain ⟨wc,hwc⟩:∃ wc,wc=wr.alloc (.cells #[.string (strOf n.1),.int .i64 n.2] 116):=⟨_,rfl⟩
      have hbc:Below wr.heap.size wr wc:=by rw [hwc];exact bN wr _
      have HBC:Hid (Below wr.heap.size wr (wc.alloc (.cells #[.string (strOf n.1)] 9))):=hbc.trans ((bN wc _).mono hbc.size)
      have HRD:Hid (RdS (wc.alloc (.cells #[.string (strOf n.1)] 9)) (some ⟨wc.heap.size,0,none⟩) [n.1]):=rds_one wc n.1 9
      rw [hwc] at HBC HRD
      rw [World.size_alloc] at HRD
      clear hn hcell hql hlow htk hll hbc hwc
      go_wp2_with (at_builtin;refine wpList_append_txts rfl (.tmp 36) (.tmp 39) rfl rfl HT.out HBC.out _ [n.1] 1 1 rfl rfl HRD.out HLL.out ?_;intro v2 w2 HO2 HG2)
      have HNX:Hid (Go.Proofs.YtjoedamiilgajaaGreat.TAt w1.heap.size v2 ((l.take (j+1)).map (·.1)) w1 w2):=by
       show Go.Proofs.YtjoedamiilgajaaGreat.TAt _ _ _ _ _
       rw [HTK.out];exact HO2.out
      clear HO2 HG2 HTK HLL HBC HRD
      go_roundw
      case rel=>exact ⟨j+1,by go_num,by omega,HNX.out⟩
      case measure=>simp;omega
     ·obtain rfl:j=l.length:=by omega
      have HEND:Hid (Go.Proofs.YtjoedamiilgajaaGreat.TAt w1.heap.size u7 (l.map (·.1)) w1 wr):=by
       have:=HT.out
       rw [List.take_length] at this
       exact this
      go_wp2_with fail
      go_ret2
      rw [HN.out]
      exact ⟨_,rfl,HEND.out⟩
end Tm
end Go.Proofs.YtjoedamiilgajaaGreat
namespace Go.Proofs.YtjoedamiilgajaaGreat
open Go.RowKit Rc
open Tr (Nm En T)
namespace Tm
def SOwn (w:World) (v:Value) (l:List Bs):Prop:=w.ownsRow 0 9 1 v l.length (txtCells l)
theorem SOwn.nil (w:World):SOwn w (.slice none 0 0) []:=⟨rfl,.inl ⟨rfl,rfl⟩⟩
theorem SOwn.keep {w w':World} {v:Value} {l:List Bs} (h:SOwn w v l) (hb:∀ b,v.ownBlock=some b→w'.heap[b]?=w.heap[b]?):SOwn w' v l:=own_keep h hb
theorem SOwn.lt {w:World} {v:Value} {l:List Bs} (h:SOwn w v l) {b:Nat} (hb:v.ownBlock=some b):b<w.heap.size:=(oB h hb).2.1
theorem SOwn.form {w:World} {v:Value} {l:List Bs} (h:SOwn w v l):∃ A c,v=.slice A l.length c∧l.length≤c∧RdS w A l∧∀ b,0<l.length→A.map (·.block)=some b→v.ownBlock=some b:=by
 obtain ⟨A,c,h1,h2,h3⟩:=oF h
 refine ⟨A,c,h1,h2,fun hl=>?_,fun b hl hb=>?_⟩
 ·obtain ⟨g,h4,h5,h6,h7,h8⟩:=h3 hl
  exact ⟨g,0,h4,h7,fun j x hx=>by rw [Nat.zero_add];exact h8 j _ (by simp [txtCells,hx])⟩
 ·obtain ⟨g,h4,h5,h6,h7,h8⟩:=h3 hl
  rw [h4] at hb
  simp only [Option.map_some,Option.some.injEq] at hb
  rw [h5,hb]
theorem txt_take (l:List Bs) (x:Bs) {c:List Value} (h:c.take ((l++[x]).length*1)=txtCells (l++[x])):c.take (l.length*1)=txtCells l:=by
 have h1:(c.take ((l++[x]).length*1)).take (l.length*1)=c.take (l.length*1):=by
  rw [List.take_take]
  congr 1
  rw [List.length_append]
  omega
 rw [← h1,h,txtCells_append,Nat.mul_one]
 have:l.length=(txtCells l).length:=(txtCells_length l).symm
 rw [this]
 exact List.take_left
theorem run_append_kept (w:World) (v:Value) (a:List Bs) (hown:SOwn w v a) (A:Option Addr) (x:Bs) (c:Nat) (hr:RdS w A [x]) (hn:a.length≤1000000) (ty:TypeId) :
    ∃ v' w',(Builtin.append_ #[26,26] ty #[v,.slice A 1 c]).run Tryz.prog w=.ok v' w'∧SOwn w' v' (a++[x])∧w.grownBy w' v.ownBlock∧(v'.ownBlock=v.ownBlock∨v'.ownBlock=some w.heap.size) ∧
    ∀ W,SOwn W v' (a++[x])→(∀ b,v.ownBlock=some b→v'.ownBlock≠some b→W.heap[b]?=w'.heap[b]?)→SOwn W v a:=by
 obtain ⟨i,hi,hz,hsize,hby⟩:=info_parts Tryz.infoStr
 obtain ⟨b0,off,rfl,hb0,hcell⟩:=hr (by simp)
 have hnews:∀ j u,([.string (strOf x)]:List Value)[j]?=some u→w.cell? ((⟨b0,off,none⟩:Addr).add j)=some u:=by
  intro j u hu
  have hj:j=0:=by
   have:=(List.getElem?_eq_some_iff.1 hu).1
   simpa using this
  subst hj
  obtain rfl:Value.string (strOf x)=u:=by simpa using hu
  rw [add_plain]
  exact hcell 0 x rfl
 have h1c:∀ u ∈ ([.string (strOf x)]:List Value),u.oneCell'=true:=fun u hu=>by
  obtain rfl:=List.mem_singleton.1 hu
  rfl
 obtain ⟨v',w',h1,h2,h3,_,h5⟩:=run_append_own_at (P:=Tryz.prog) w 0 26 ty 9 i (.string .empty) 1 16 Tryz.underlying26 hi hz hsize hby rfl (by decide) v a.length (txtCells a) hown ⟨b0,off,none⟩ 1 c [.string (strOf x)] rfl hnews h1c (by unfold maxLen;omega) (by omega) (Nat.zero_le _)
 have hown2:SOwn w' v' (a++[x]):=by
  unfold SOwn
  rw [List.length_append,txtCells_append]
  exact h2
 refine ⟨v',w',h1,hown2,h3,h5,fun W hW hb=>?_⟩
 rcases hown.2 with ⟨rfl,h0⟩|⟨g,cap,cur,rfl,hbg,hg,hnc,hcm,hcs,htake⟩
 ·exact ⟨hown.1,.inl ⟨rfl,h0⟩⟩
 ·have hgl:g<w.heap.size:=(Array.getElem?_eq_some_iff.1 hg).1
  by_cases hroom:a.length+1≤cap
  ·have hr2:=run_append_room (P:=Tryz.prog) w 26 ty 9 i Tryz.underlying26 hi g a.length cap cur hg ⟨b0,off,none⟩ 1 c [.string (strOf x)] (by rw [hsize];rfl) hnews h1c hroom (by rw [hsize,hcs];simp;omega)
   rw [h1] at hr2
   injection hr2 with e1 e2
   subst e1
   rcases hW.2 with ⟨hcon,_⟩|⟨g',cap',cur',e,hbg',hg',hnc',hcm',hcs',htake'⟩
   ·cases hcon
   ·injection e with e3 e4 e5
    injection e3 with e3
    injection e3 with e3
    subst e3 e5
    exact ⟨hown.1,.inr ⟨g,cap,cur',rfl,hbg,hg',hnc,hcm,hcs',txt_take a x htake'⟩⟩
  ·have holds:∀ j u,(txtCells a)[j]?=some u→w.cell? ((⟨g,0,none⟩:Addr).add j)=some u:=World.ownsRow.cells (g:=g) hown rfl
   have hr2:=run_append_grow (P:=Tryz.prog) w 26 ty 9 i (.string .empty) Tryz.underlying26 hi hz ⟨g,0,none⟩ a.length cap (txtCells a) (by rw [hsize];exact hown.1) holds ⟨b0,off,none⟩ 1 c [.string (strOf x)] (by rw [hsize];rfl) hnews (by omega) (by omega) (growslice_fits (by omega) (by rw [hby];omega))
   rw [h1] at hr2
   injection hr2 with e1 e2
   have h9:v'.ownBlock≠some g:=by
    rw [e1]
    simp only [Value.ownBlock,ne_eq,Option.some.injEq]
    omega
   refine SOwn.keep hown fun b hb2=>?_
   simp only [Value.ownBlock,Option.some.injEq] at hb2
   subst hb2
   rw [hb _ rfl h9,e2]
   exact (bN w.drew _).block _ hgl
end Tm
end Go.Proofs.YtjoedamiilgajaaGreat
namespace Go.Proofs.YtjoedamiilgajaaGreat
open Go.RowKit Rc
open Tr (Nm En T)
namespace Tm
theorem step_append_kept {ops:Array Oper} {o:Oper} {a:Act} {w:World} {K:Act→World→Prop} {Q:Exit→Act→World→Prop} {E:Prop} (hgd:o.guard=none) (s x:Operand)
    (ho:o.op=.call { callee:=.builtin .append,args:=#[s,x],argTypes:=#[26,26] })
    {v:Value} {l:List Bs} (hs:a.eval s=v) (hown:SOwn w v l) (A:Option Addr) (y:Bs) (c:Nat) (hx:a.eval x=.slice A 1 c) (hr:RdS w A [y]) (hn:l.length≤1000000)
    (h:∀ v' w',Hid (SOwn w' v' (l++[y]))→Hid (w.grownBy w' v.ownBlock)→Hid (v'.ownBlock=v.ownBlock∨v'.ownBlock=some w.heap.size)→Hid (∀ W,SOwn W v' (l++[y])→(∀ b,v.ownBlock=some b→v'.ownBlock≠some b→W.heap[b]?=w'.heap[b]?)→SOwn W v l)→K (a.put o.dst v') w') :
    if Region.wanted o (yielded ops a.tmps)=true then Oper.wp Tryz.prog o a w K Q else E:=by
 rw [if_pos (show Region.wanted o (yielded ops a.tmps)=true by simp [Region.wanted,hgd])]
 obtain ⟨v',w',hrun,h1,h2,h3,h4⟩:=run_append_kept w v l hown A y c hr hn o.type
 unfold Oper.wp
 simp [execOp,ho,resolve,invoke,builtin,hs,hx,hrun,Result.andThen]
 exact h v' w' h1 h2 h3 h4
abbrev Shown:=List (List Bs × Int)
structure Eye where
 At:Shown→(Nat→Prop)→World→Prop
 keep:∀ {s:Shown} {S:Nat→Prop} {w w':World},At s S w→w.heap.size≤w'.heap.size→(∀ b,S b→w'.heap[b]?=w.heap[b]?)→At s S w'
 lt:∀ {s:Shown} {S:Nat→Prop} {w:World},At s S w→∀ b,S b→b<w.heap.size
structure Shows (O:Eye) (f:FuncId) (cb:Array Value) (lim:Nat):Prop where
 ent:∀ (args:Array Value) (w:World),(callFunc f args).run Tryz.prog w=.ok (.enter f args) w
 call:∀ (w:World) (seen:Shown) (B:Nat→Prop) (A:Option Addr) (q:List Bs) (cap g:Nat) (e:En) (S1:Nat→Prop),O.At seen B w→seen.length<lim→RdS w A q→q.length≤cap→q.length≤1000→(∀ b,0<q.length→A.map (·.block)=some b→¬ B b)→EAt g e S1 w→(∀ b,S1 b→¬ B b) →
  Calls Tryz.prog f (#[.slice A q.length cap,.pointer (some ⟨g,0,none⟩)]++cb) w fun r w'=>r=.returned (.tuple #[])∧∃ B',O.At (seen++[(q,e.nd.id)]) B' w'∧Mod w w' B∧∀ b,B' b→B b∨w.heap.size≤b
structure WMid (O:Eye) (row:Value) (a:List Bs) (seen:Shown) (B:Nat→Prop) (w:World) (more:Shown) (B':Nat→Prop) (w':World):Prop where
 at_:O.At (seen++more) B' w'
 mod:Mod w w' (fun b=>B b∨row.ownBlock=some b)
 sub:∀ b,B' b→B b∨w.heap.size≤b
 own:SOwn w' row a
structure WPre (O:Eye) (p:Nat) (av:Value) (gs:List Nat) (S:Nat→Prop) (t:T) (row:Value) (a:List Bs) (seen:Shown) (B:Nat→Prop) (w:World):Prop where
 tin:TIn p av gs S t w
 own:SOwn w row a
 at_:O.At seen B w
 apT:∀ b,B b→¬ TrS p av S b
 apR:∀ b,row.ownBlock=some b→¬ B b∧¬ TrS p av S b
def Walked (O:Eye) (row:Value) (a:List Bs) (seen:Shown) (B:Nat→Prop) (w:World) (more:Shown) (r:Ending) (w':World):Prop :=
 r=.returned (.tuple #[])∧∃ B',WMid O row a seen B w more B' w'
section
variable {O:Eye} {p:Nat} {av:Value} {gs:List Nat} {S:Nat→Prop} {t:T} {row:Value} {a:List Bs} {seen:Shown} {B:Nat→Prop} {w:World}
theorem WPre.start (h:WPre O p av gs S t row a seen B w):WMid O row a seen B w [] B w:=⟨by rw [List.append_nil];exact h.at_,Mod.refl _ _,fun _ h=>.inl h,h.own⟩
theorem WMid.pre {more:Shown} {B':Nat→Prop} {w':World} (h:WPre O p av gs S t row a seen B w) (k:WMid O row a seen B w more B' w'):WPre O p av gs S t row a (seen++more) B' w':=by
 refine ⟨h.tin.keep fun b hb=>k.mod.block b (h.tin.lt hb) (fun hx=>hx.elim (fun h1=>h.apT b h1 hb) fun h1=>(h.apR b h1).2 hb),k.own,k.at_,fun b hb ht=>?_,fun b hb=>⟨fun h1=>?_,(h.apR b hb).2⟩⟩
 ·rcases k.sub b hb with h1|h1
  ·exact h.apT b h1 ht
  ·have:=h.tin.lt ht;omega
 ·rcases k.sub b h1 with h2|h2
  ·exact (h.apR b hb).1 h2
  ·have:=h.own.lt hb;omega
theorem WMid.trans {more more2:Shown} {B1 B2:Nat→Prop} {w1 w2:World} (k:WMid O row a seen B w more B1 w1) (m:WMid O row a (seen++more) B1 w1 more2 B2 w2):WMid O row a seen B w (more++more2) B2 w2 :=
 ⟨by rw [← List.append_assoc];exact m.at_,mod_trans k.mod (fun b hb=>hb.elim (fun h1=>(k.sub b h1).imp .inl id) fun h1=>.inl (.inr h1)) m.mod,fun b hb=>(m.sub b hb).elim (k.sub b) fun h1=>.inr (Nat.le_trans k.mod.size h1),m.own⟩
theorem WPre.hung {x:Bs} {v2:Value} {wa w2:World} (h:WPre O p av gs S t row a seen B w) (hb:Below w.heap.size w wa) (ho:SOwn w2 v2 (a++[x])) (hg:wa.grownBy w2 row.ownBlock) (hal:v2.ownBlock=row.ownBlock∨v2.ownBlock=some wa.heap.size) :
    WPre O p av gs S t v2 (a++[x]) seen B w2:=by
 have hk:∀ b,b<w.heap.size→row.ownBlock≠some b→w2.heap[b]?=w.heap[b]?:=fun b hl hn=>(hg.block b (Nat.lt_of_lt_of_le hl hb.size) (fun e=>hn e.symm)).trans (hb.block b hl)
 have hsz:=Nat.le_trans hb.size hg.size
 refine ⟨h.tin.keep fun b hT=>hk b (h.tin.lt hT) fun e=>(h.apR b e).2 hT,ho,O.keep h.at_ hsz fun b hB=>hk b (O.lt h.at_ b hB) fun e=>(h.apR b e).1 hB,h.apT,fun b hv=>?_⟩
 rcases hal with e|e
 ·exact h.apR b (e ▸ hv)
 ·rw [e] at hv
  injection hv with hv
  have:=hb.size
  exact ⟨fun h1=>by have:=O.lt h.at_ b h1;omega,fun h1=>by have:=h.tin.lt h1;omega⟩
theorem WPre.told {s2:Shown} {B2:Nat→Prop} {w2:World} (h:WPre O p av gs S t row a seen B w) (h1:O.At s2 B2 w2) (hm:Mod w w2 B) (hs:∀ b,B2 b→B b∨w.heap.size≤b):WPre O p av gs S t row a s2 B2 w2 :=
 ⟨h.tin.keep fun b hT=>hm.block b (h.tin.lt hT) fun hB=>h.apT b hB hT,h.own.keep fun b hb=>hm.block b (h.own.lt hb) fun hB=>(h.apR b hb).1 hB,h1,fun b hb hT=>(hs b hb).elim (fun h2=>h.apT b h2 hT) fun h2=>by have:=h.tin.lt hT;omega,fun b hb=>⟨fun h2=>(hs b h2).elim (h.apR b hb).1 fun h3=>by have:=h.own.lt hb;omega,(h.apR b hb).2⟩⟩
theorem WPre.round {x:Bs} {id:Int} {R:Shown} {v2:Value} {wa w2 w3 w4:World} {B2 B3:Nat→Prop} (h:WPre O p av gs S t row a seen B w) (hb:Below w.heap.size w wa) (ho:SOwn w2 v2 (a++[x])) (hg:wa.grownBy w2 row.ownBlock) (hal:v2.ownBlock=row.ownBlock∨v2.ownBlock=some wa.heap.size)
    (hk:∀ W,SOwn W v2 (a++[x])→(∀ b,row.ownBlock=some b→v2.ownBlock≠some b→W.heap[b]?=w2.heap[b]?)→SOwn W row a)
    (hm:Mod w2 w3 B) (hs:∀ b,B2 b→B b∨w2.heap.size≤b) (k:WMid O v2 (a++[x]) (seen++[(a++[x],id)]) B2 w3 R B3 w4) :
    WMid O row a seen B w ((a++[x],id) :: R) B3 w4:=by
 have hsz:=Nat.le_trans hb.size hg.size
 have hsz2:=hm.size
 have hwa:=hb.size
 refine ⟨?_,?_,fun b hb3=>?_,hk w4 k.own fun b hr hn=>?_⟩
 ·have:=k.at_
  rw [List.append_assoc] at this
  exact this
 ·have m1:Mod w w2 (fun b=>B b∨row.ownBlock=some b):=⟨hg.os.trans hb.os,hg.tape.trans hb.tape,hg.output.trans hb.output,hsz,fun b hl hn=>(hg.block b (Nat.lt_of_lt_of_le hl hb.size) (fun e=>hn (.inr e.symm))).trans (hb.block b hl)⟩
  have m2:=mod_trans m1 (fun b hB=>.inl (.inl hB)) hm
  refine mod_trans m2 (fun b hB=>?_) k.mod
  rcases hB with hB|hB
  ·rcases hs b hB with h1|h1
   ·exact .inl (.inl h1)
   ·exact .inr (by omega)
  ·rcases hal with e|e
   ·exact .inl (.inr (e ▸ hB))
   ·rw [e] at hB
    injection hB with hB
    exact .inr (by omega)
 ·rcases k.sub b hb3 with h1|h1
  ·rcases hs b h1 with h2|h2
   ·exact .inl h2
   ·exact .inr (by omega)
  ·exact .inr (by omega)
 ·have hlt:=h.own.lt hr
  have e1:w3.heap[b]?=w2.heap[b]?:=hm.block b (by omega) (h.apR b hr).1
  refine (k.mod.block b (by omega) fun hx=>?_).trans e1
  rcases hx with h1|h1
  ·rcases hs b h1 with h2|h2
   ·exact (h.apR b hr).1 h2
   ·omega
  ·exact hn h1
end
end Tm
end Go.Proofs.YtjoedamiilgajaaGreat
namespace Go.Proofs.YtjoedamiilgajaaGreat
open Go.RowKit Rc
open Tr (Nm En T)
namespace Tm
variable {lim:Nat} {O:Eye} {f:FuncId} {cb:Array Value} {p:Nat} {av:Value} {gs:List Nat} {S:Nat→Prop} {t:T}
theorem cell_same {w w':World} {g o:Nat} (h:w'.heap[g]?=w.heap[g]?):w'.cell? ⟨g,o,none⟩=w.cell? ⟨g,o,none⟩:=by unfold World.cell?;rw [h]
theorem undrew_r {b:Nat} {w w':World} (h:Below b w w'):Below b w w'.drew:=⟨h.os,h.tape,h.output,h.size,h.block⟩
def shownOf (a:List Bs) (R:Nm→Shown) (k:Nm):Shown:=(a++[k.1],k.2) :: R k
theorem shown_next {a:List Bs} {R:Nm→Shown} {l:List Nm} {j:Nat} {k:Nm} (h:l[j]?=some k):(l.take (j+1)).flatMap (shownOf a R)=(l.take j).flatMap (shownOf a R)++shownOf a R k:=by
 rw [take_next h,List.flatMap_append]
 simp
theorem flat_le {a:List Bs} {R:Nm→Shown} {l:List Nm} {j:Nat} {k:Nm} (h:l[j]?=some k):((l.take j).flatMap (shownOf a R)).length+(1+(R k).length)≤(l.flatMap (shownOf a R)).length:=by
 have h1:=shown_next (a:=a) (R:=R) h
 have h2:((l.take (j+1)).flatMap (shownOf a R)).length≤(l.flatMap (shownOf a R)).length:=by
  conv=>rhs;rw [← List.take_append_drop (j+1) l]
  rw [List.flatMap_append,List.length_append]
  omega
 rw [h1,List.length_append] at h2
 unfold shownOf at h2 ⊢
 rw [List.length_cons] at h2
 omega
set_option maxRecDepth 100000 in
theorem walk_step (hS:Shows O f cb lim) (hG:Tr.Good t) (R:Nm→Shown) {i:Int} {ei:En} {gi:Nat} {row:Value} {a:List Bs} {seen:Shown} {B:Nat→Prop} {w:World}
    (hf:Tr.find t i=some ei) (hp:ptrOf gs t i=.pointer (some ⟨gi,0,none⟩)) (ha:a.length≤900) (h:WPre O p av gs S t row a seen B w) (hlim:seen.length+(ei.names.flatMap (shownOf a R)).length≤lim)
    (IH:∀ k ∈ ei.names,∀ (g1:Nat) (row1:Value) (seen1:Shown) (B1:Nat→Prop) (w1:World),ptrOf gs t k.2=.pointer (some ⟨g1,0,none⟩)→WPre O p av gs S t row1 (a++[k.1]) seen1 B1 w1→seen1.length+(R k).length≤lim →
     Calls Tryz.prog 88 #[.pointer (some ⟨p,0,none⟩),.pointer (some ⟨g1,0,none⟩),row1,.func (.func f) #[] cb] w1 (Walked O row1 (a++[k.1]) seen1 B1 w1 (R k))) :
    Calls Tryz.prog 88 #[.pointer (some ⟨p,0,none⟩),.pointer (some ⟨gi,0,none⟩),row,.func (.func f) #[] cb] w (Walked O row a seen B w (ei.names.flatMap (shownOf a R))):=by
 obtain ⟨gi',Si,hp',hE,hSi,hnl⟩:=h.tin.ptr hG hf
 obtain rfl:gi'=gi:=ptr_inj (hp'.symm.trans hp)
 obtain ⟨dv,nv,hE,rfl⟩:=hE
 have c7:w.cell? ⟨gi',7,none⟩=some nv:=hE.box.cell 7
 obtain ⟨A7,k7,hv7,hk7,hA⟩:=hE.names.form
 have hnb:∀ b,nv.ownBlock=some b→TrS p av S b:=fun b hb=>.inr (.inr (hSi b (.inr (.inr hb))))
 subst hv7
 obtain ⟨l,hl⟩:∃ l,l=ei.names:=⟨_,rfl⟩
 have HLD:Hid (∀ k ∈ l,∃ ek,Tr.find t k.2=some ek):=fun k hk=>Option.isSome_iff_exists.1 (hG.leads ei (Tr.find_some hf).1 k (hl ▸ hk)).2
 rw [← hl] at c7 hA IH hnl hlim ⊢
 have HLIM:=Lib.hid hlim
 have HA:=Lib.hid hA
 have HIH:=Lib.hid IH
 have HNB:=Lib.hid hnb
 have HW:=Lib.hid h
 have HG:=Lib.hid hG
 have hent:=hS.ent
 have HS:=Lib.hid hS
 clear hlim hA IH hnb h hG hS hE hSi hp' hp hf hl hk7
 go_enter Tryz.func88,Tryz.ntmps88
 go_wp2_with fail
 clear c7
 go_loopw [9,10,11,17] (fun t9 t10 t11 t17 wr=>∃ (j:Nat) (v9 v10 v11:Value),t9=v9∧t10=v10∧t11=v11∧t17=.int .i64 j∧j≤l.length∧Hid (∃ B1,WMid O row a seen B w ((l.take j).flatMap (shownOf a R)) B1 wr)) (fun _ _ _ t17 _=>l.length-(match t17 with|.int _ k=>k.toNat|_=>0))
 case atStart=>exact ⟨0,_,_,_,rfl,rfl,rfl,rfl,Nat.zero_le _,B,HW.out.start⟩
 case round =>
  obtain ⟨j,v9,v10,v11,rfl,rfl,rfl,rfl,hj,HM⟩:=hrel
  by_cases hk:j<l.length
  ·obtain ⟨k,hkj⟩:∃ k,l[j]?=some k:=⟨_,List.getElem?_eq_getElem hk⟩
   obtain ⟨q,rfl,hq1,_,hql,hcell⟩:=HA.out (by omega)
   obtain ⟨B1,hM⟩:=HM.out
   have HM1:=Lib.hid hM
   have hpre:=hM.pre HW.out
   have HPRE:=Lib.hid hpre
   have hsame:wr.heap[q]?=w.heap[q]?:=hM.mod.block q hql fun hx=>hx.elim (fun h1=>HW.out.apT q h1 (HNB.out q hq1)) fun h1=>(HW.out.apR q h1).2 (HNB.out q hq1)
   have c1:wr.cell? ⟨q,j*2,none⟩=some (.string (strOf k.1)):=(cell_same hsame).trans (hcell j k hkj).1
   have c2:wr.cell? ⟨q,j*2+1,none⟩=some (.int .i64 k.2):=(cell_same hsame).trans (hcell j k hkj).2
   have hlt2:(j:Int)<(l.length:Int):=by omega
   obtain ⟨ek,hek⟩:=HLD.out k (List.mem_of_getElem? hkj)
   obtain ⟨gk,Sk,hpk,hEk,hSk,_⟩:=hpre.tin.ptr HG.out hek
   have hid:ek.nd.id=k.2:=(Tr.find_some hek).2
   have HFIND:Hid (∀ W,wr.heap.size≤W.heap.size→(∀ b,TrS p av S b→W.heap[b]?=wr.heap[b]?)→Calls Tryz.prog 89 #[.pointer (some ⟨p,0,none⟩),.int .i64 k.2] W fun e w'=>e=.returned (.pointer (some ⟨gk,0,none⟩))∧w'=W):=fun W _ hW=>by
    have:=find_any (hpre.tin.keep hW) k.2 (by have:=HG.out.few;omega)
    rw [hpk] at this
    exact this
   have HPK:=Lib.hid hpk
   have HEK:=Lib.hid hek
   have HKJ:=Lib.hid hkj
   have HID:=Lib.hid hid
   have HBND:Hid ((seen++(l.take j).flatMap (shownOf a R)).length+(1+(R k).length)≤lim):=by
    show _≤_
    have h1:=HLIM.out
    have h2:=flat_le (a:=a) (R:=R) hkj
    rw [List.length_append]
    omega
   clear hM hpre hsame hcell hek hpk hEk hSk hid hkj hq1 hql
   go_upto_region 3 with (fail)
   obtain ⟨wn,hwn⟩:∃ wn,wn=wr.alloc (.cells #[.string (strOf k.1),.int .i64 k.2] 116):=⟨_,rfl⟩
   obtain ⟨nb,hnb⟩:∃ nb,nb=wr.heap.size:=⟨_,rfl⟩
   have hblk:Blk wn nb 116 [.string (strOf k.1),.int .i64 k.2]:=by rw [hwn,hnb];exact Blk.new wr _ _
   have hbn:Below wr.heap.size wr wn:=by rw [hwn];exact bN wr _
   have hba:Below wr.heap.size wr (wn.drew.alloc (.cells #[.string (strOf k.1)] 9)):=undrew_r hbn |>.trans ((bN wn.drew _).mono hbn.size)
   have HBA:=Lib.hid hba
   have HSO:Hid (SOwn (wn.drew.alloc (.cells #[.string (strOf k.1)] 9)) row a):=HPRE.out.own.keep fun b hb=>hba.block b (HPRE.out.own.lt hb)
   have hrd:RdS (wn.drew.alloc (.cells #[.string (strOf k.1)] 9)) (some ⟨wn.drew.heap.size,0,none⟩) [k.1]:=rds_one wn.drew k.1 9
   have HRD:=Lib.hid hrd
   have HLA:Hid (a.length≤1000000):=by show _≤_;omega
   have HND:Hid (∀ w2,(wn.drew.alloc (.cells #[.string (strOf k.1)] 9)).grownBy w2 row.ownBlock→w2.cell? ⟨nb,0,none⟩=some (.string (strOf k.1))∧w2.cell? ⟨nb,1,none⟩=some (.int .i64 k.2)):=fun w2 hg=>by
    have h1:Blk (wn.drew.alloc (.cells #[.string (strOf k.1)] 9)) nb 116 [.string (strOf k.1),.int .i64 k.2]:=Blk.below (w:=wn.drew) hblk (bN wn.drew _) hblk.lt
    have h2:Blk w2 nb 116 [.string (strOf k.1),.int .i64 k.2]:=h1.grown hg fun e=>by have:=HPRE.out.own.lt e.symm;omega
    exact ⟨h2.cell 0,h2.cell 1⟩
   have HFIND2:Hid (∀ w2,(wn.drew.alloc (.cells #[.string (strOf k.1)] 9)).grownBy w2 row.ownBlock→Calls Tryz.prog 89 #[.pointer (some ⟨p,0,none⟩),.int .i64 k.2] w2 fun e w'=>e=.returned (.pointer (some ⟨gk,0,none⟩))∧w'=w2):=fun w2 hg =>
    HFIND.out w2 (Nat.le_trans hba.size hg.size) fun b hT=>(hg.block b (Nat.lt_of_lt_of_le (HPRE.out.tin.lt hT) hba.size) fun e=>(HPRE.out.apR b e.symm).2 hT).trans (hba.block b (HPRE.out.tin.lt hT))
   have d0:wn.cell? ⟨nb,0,none⟩=some (.string (strOf k.1)):=hblk.cell 0
   have d1:wn.cell? ⟨nb,1,none⟩=some (.int .i64 k.2):=hblk.cell 1
   have d1a:(wn.drew.alloc (.cells #[.string (strOf k.1)] 9)).cell? ⟨nb,1,none⟩=some (.int .i64 k.2):=cell_alloc (w:=wn.drew) _ d1
   obtain ⟨qa,hqa⟩:∃ qa,qa=a++[k.1]:=⟨_,rfl⟩
   have HQA:=Lib.hid hqa
   rw [← hwn,← hnb]
   clear hwn hnb hblk hbn hba hrd hqa c1 c2 HFIND
   go_region_held3 (fun w'=>w'.cell? ⟨nb,0,none⟩=some (.string (strOf k.1))∧w'.cell? ⟨nb,1,none⟩=some (.int .i64 k.2))
    (first
     | go_keep
     | exact HND.out _ HG2.out)
    (first
     | (go_at_call 89;refine (HFIND2.out w2 HG2.out).mono ?_;rintro e1 w3 ⟨rfl,rfl⟩)
     | (refine step_append_kept (v:=row) (l:=a) (by rfl) (.tmp 21) (.tmp 24) (by rfl) (by rfl) HSO.out _ k.1 1 (by rfl) HRD.out HLA.out ?_;intro v2 w2 HO2 HG2 HP2 HK2;rw [← HQA.out] at HO2;obtain ⟨A2,c2,hv2,hc2,hrd2,hb2⟩:=HO2.out.form;subst hv2)
     | fail)
   have ho3:SOwn w3 (.slice A2 qa.length c2) (a++[k.1]):=by rw [← HQA.out];exact HO2.out
   have hpre2:=HPRE.out.hung HBA.out ho3 HG2.out HP2.out
   obtain ⟨gk2,Sk2,hpk2,hEk2,hSk2,_⟩:=hpre2.tin.ptr HG.out HEK.out
   obtain rfl:gk2=gk:=ptr_inj (hpk2.symm.trans HPK.out)
   have hq:qa.length≤1000:=by rw [HQA.out,List.length_append];show _+1≤_;omega
   have hcall:=HS.out.call w3 _ B1 A2 qa c2 gk2 ek Sk2 hpre2.at_ (by have:=HBND.out;omega) hrd2 hc2 hq (fun b hl hb h1=>(hpre2.apR b (hb2 b hl hb)).1 h1) hEk2 (fun b hb h1=>hpre2.apT b h1 (.inr (.inr (hSk2 b hb))))
   rw [HID.out,HQA.out] at hcall
   have hql:(a++[k.1]).length=qa.length:=by rw [HQA.out]
   rw [hql] at hcall
   have HCL:=Lib.hid hcall
   have HPRE2:=Lib.hid hpre2
   have HO3:=Lib.hid ho3
   clear ho3 hpre2 hpk2 hEk2 hSk2 hq hcall hrd2 hc2 hb2 d0 d1 d1a HO2 HND HFIND2 HSO HRD hql
   go_wp2_with fail
   refine HCL.out.mono ?_
   rintro r w4 ⟨rfl,B2,h1,h2,h3⟩
   have HWALK:=Lib.hid (HIH.out k (List.mem_of_getElem? HKJ.out) gk2 _ _ B2 w4 HPK.out (HPRE2.out.told h1 h2 h3) (by have:=HBND.out;rw [List.length_append,List.length_singleton];omega))
   have HROUND:Hid (∀ B3 w5,WMid O (.slice A2 qa.length c2) (a++[k.1]) ((seen++(l.take j).flatMap (shownOf a R))++[(a++[k.1],k.2)]) B2 w4 (R k) B3 w5→WMid O row a (seen++(l.take j).flatMap (shownOf a R)) B1 wr (shownOf a R k) B3 w5):=fun B3 w5 hm=>HPRE.out.round HBA.out HO3.out HG2.out HP2.out HK2.out h2 h3 hm
   clear h1 h2 h3 HCL HG2 HP2 HK2
   go_wp2_with fail
   refine HWALK.out.mono ?_
   rintro r w5 ⟨rfl,B3,hmid⟩
   have HNX:Hid (∃ B',WMid O row a seen B w ((l.take (j+1)).flatMap (shownOf a R)) B' w5):=by
    rw [shown_next HKJ.out]
    exact ⟨B3,HM1.out.trans (HROUND.out B3 w5 hmid)⟩
   clear hmid HWALK HROUND
   go_wp2_with fail
   go_roundw
   case rel=>exact ⟨j+1,_,_,_,rfl,rfl,rfl,by go_num,by omega,HNX.out⟩
   case measure=>simp;omega
  ·obtain rfl:j=l.length:=by omega
   have HEND:Hid (∃ B1,WMid O row a seen B w (l.flatMap (shownOf a R)) B1 wr):=by
    have:=HM.out
    rw [List.take_length] at this
    exact this
   go_wp2_with fail
   refine bodyPost_end (results_none rfl _ _ _) rfl ?_
   exact ⟨rfl,HEND.out⟩
end Tm
end Go.Proofs.YtjoedamiilgajaaGreat
namespace Go.Proofs.YtjoedamiilgajaaGreat
open Go.RowKit Rc
open Tr (Nm En T)
namespace Tm
variable {lim:Nat} {O:Eye} {f:FuncId} {cb:Array Value} {p:Nat} {av:Value} {gs:List Nat} {S:Nat→Prop} {t:T}
abbrev Deeps (t:T) (dep:Int→Nat):Prop:=∀ e ∈ t,∀ n ∈ e.names,dep e.nd.id+1≤8∧(Tr.kindOf t n.2=2→dep n.2=dep e.nd.id+1)
theorem no_names (hG:Tr.Good t) {dep:Int→Nat} (hd:Deeps t dep) {i:Int} {ei:En} (hf:Tr.find t i=some ei) (h9:ei.nd.kind=2→9≤dep i):ei.names=[]:=by
 have hm:=Tr.find_some hf
 by_cases hk:ei.nd.kind=2
 ·apply List.eq_nil_iff_forall_not_mem.2
  intro n hn
  have h1:=(hd ei hm.1 n hn).1
  have h2:=h9 hk
  rw [hm.2] at h1
  omega
 ·have h1:=(hG.each ei hm.1).nd
  have h2:=(hG.each ei hm.1).file
  exact h2 (h1.2.2.2.2.2.2.2.resolve_right fun h3=>hk h3.1)
theorem walk_any (hS:Shows O f cb lim) (hG:Tr.Good t) {dep:Int→Nat} (hd:Deeps t dep):∀ (n:Nat) (i:Int) (ei:En) (gi:Nat) (row:Value) (a:List Bs) (seen:Shown) (B:Nat→Prop) (w:World),
    Tr.find t i=some ei→ptrOf gs t i=.pointer (some ⟨gi,0,none⟩)→(ei.nd.kind=2→9≤n+dep i)→a.length+n≤900→WPre O p av gs S t row a seen B w→seen.length+(Tr.walk t n i a).length≤lim →
    Calls Tryz.prog 88 #[.pointer (some ⟨p,0,none⟩),.pointer (some ⟨gi,0,none⟩),row,.func (.func f) #[] cb] w (Walked O row a seen B w (Tr.walk t n i a))
 | 0,i,ei,gi,row,a,seen,B,w,hf,hp,h9,ha,h,hl=>by
   have hn:=no_names hG hd hf (by simpa using h9)
   have:=walk_step hS hG (fun _=>[]) hf hp (by omega) h (by rw [hn];exact hl) (fun k hk=>by rw [hn] at hk;cases hk)
   rw [hn] at this
   exact this
 | n+1,i,ei,gi,row,a,seen,B,w,hf,hp,h9,ha,h,hl=>by
   have he:Tr.walk t (n+1) i a=ei.names.flatMap (shownOf a fun k=>Tr.walk t n k.2 (a++[k.1])):=by rw [Tr.walk,Tr.kids_of hf];rfl
   have hm:=Tr.find_some hf
   have:=walk_step hS hG (fun k=>Tr.walk t n k.2 (a++[k.1])) hf hp (by omega) h (by rw [← he];exact hl) (fun k hk g1 row1 seen1 B1 w1 hp1 h1 hl1=>by
    obtain ⟨ek,hek⟩:=Option.isSome_iff_exists.1 (hG.leads ei hm.1 k hk).2
    refine walk_any hS hG hd n k.2 ek g1 row1 (a++[k.1]) seen1 B1 w1 hek hp1 (fun hk2=>?_) (by rw [List.length_append];show _+1+n≤_;omega) h1 hl1
    have h3:=(hd ei hm.1 k hk).2 (by rw [Tr.kO hek];exact hk2)
    rw [h3,hm.2]
    have hk3:ei.nd.kind=2:=by
     by_cases h4:ei.nd.kind=2
     ·exact h4
     ·have h5:=(hG.each ei hm.1).file ((hG.each ei hm.1).nd.2.2.2.2.2.2.2.resolve_right fun h3=>h4 h3.1)
      rw [h5] at hk;cases hk
    have:=h9 hk3
    omega)
   rw [he]
   exact this
end Tm
end Go.Proofs.YtjoedamiilgajaaGreat
namespace Go.Proofs.YtjoedamiilgajaaGreat
open Go.RowKit Rc
open Tr (Nm En T)
namespace Tm
def longest (m:Nat) (s:Shown):Nat:=s.foldl (fun k q=>max k q.1.length) m
theorem longest_append (m:Nat) (s r:Shown):longest m (s++r)=longest (longest m s) r:=List.foldl_append
theorem longest_kids (t:T) (n:Nat) (H:∀ (i:Int) (p:List Bs) (m:Nat),p.length≤m→longest m (Tr.walk t n i p)=max m (p.length+Tr.high t n i)) (p:List Bs):∀ (l:List Nm) (m h:Nat),p.length+h≤m →
    longest m (l.flatMap fun k=>(p++[k.1],k.2) :: Tr.walk t n k.2 (p++[k.1]))=max m (p.length+l.foldl (fun m k=>max m (1+Tr.high t n k.2)) h)
 | [],m,h,hm=>by simp only [List.flatMap_nil,List.foldl_nil];show m=_;omega
 | k :: l,m,h,hm=>by
   rw [List.flatMap_cons,longest_append,List.foldl_cons]
   have h1:longest m ((p++[k.1],k.2) :: Tr.walk t n k.2 (p++[k.1]))=max m (p.length+(1+Tr.high t n k.2)):=by
    show longest (max m (p++[k.1]).length) _=_
    rw [H _ _ _ (by omega),List.length_append]
    show max (max m (p.length+1)) (p.length+1+_)=_
    omega
   rw [h1,longest_kids t n H p l _ (max h (1+Tr.high t n k.2)) (by omega)]
   have h2:∀ (l:List Nm) (x y:Nat),x≤y→l.foldl (fun m k=>max m (1+Tr.high t n k.2)) x≤l.foldl (fun m k=>max m (1+Tr.high t n k.2)) y:=by
    intro l
    induction l with
    | nil=>intro x y h;exact h
    | cons k l ih=>intro x y h;rw [List.foldl_cons,List.foldl_cons];exact ih _ _ (by omega)
   have h3:∀ (l:List Nm) (x:Nat),x≤l.foldl (fun m k=>max m (1+Tr.high t n k.2)) x:=by
    intro l
    induction l with
    | nil=>intro x;exact Nat.le_refl _
    | cons k l ih=>intro x;rw [List.foldl_cons];exact Nat.le_trans (by omega) (ih _)
   have:=h3 l (max h (1+Tr.high t n k.2))
   omega
theorem longest_walk (t:T):∀ (n:Nat) (i:Int) (p:List Bs) (m:Nat),p.length≤m→longest m (Tr.walk t n i p)=max m (p.length+Tr.high t n i)
 | 0,i,p,m,h=>by
   show m=max m (p.length+0)
   omega
 | n+1,i,p,m,h=>by
   rw [Tr.walk,Tr.high]
   exact longest_kids t n (longest_walk t n) p _ m 0 (by omega)
def hEye (m:Nat):Eye where
 At s B w:=Blk w m 3 [.int .i64 (longest 0 s:Nat)]∧B=fun b=>b=m
 keep:=by
  rintro s B w w' ⟨h,rfl⟩ _ hb
  exact ⟨(hb m rfl).trans h,rfl⟩
 lt:=by
  rintro s B w ⟨h,rfl⟩ b rfl
  exact h.lt
set_option maxRecDepth 100000 in
theorem height1_any (w:World) (m k:Nat) (x:Value) (A:Option Addr) (l cap:Nat) (h:Blk w m 3 [.int .i64 (k:Nat)]) :
    Calls Tryz.prog 150 #[.slice A l cap,x,.pointer (some ⟨m,0,none⟩)] w fun r w'=>r=.returned (.tuple #[])∧w'=w.setCell ⟨m,0,none⟩ (.int .i64 (max k l:Nat)):=by
 have c0:w.cell? ⟨m,0,none⟩=some (.int .i64 (k:Nat)):=h.cell 0
 have f0:=h.frozen 0
 have HMX:Hid (max (k:Int) (l:Int)=((max k l:Nat):Int)):=by show _=_;omega
 go_enter Tryz.func150,Tryz.ntmps150
 go_wp2_with fail
 rw [HMX.out]
 refine bodyPost_end (results_none rfl _ _ _) rfl ?_
 exact ⟨rfl,rfl⟩
theorem hShows (m lim:Nat):Shows (hEye m) 150 #[.pointer (some ⟨m,0,none⟩)] lim where
 ent:=enters_of Tryz.func150 (by kernel_rfl) rfl
 call:=by
  rintro w seen B A q cap g e S1 ⟨h,rfl⟩ _ _ _ _ _ _ _
  refine (height1_any w m (longest 0 seen) (.pointer (some ⟨g,0,none⟩)) A q.length cap h).mono ?_
  rintro r w' ⟨rfl,rfl⟩
  have hb:longest 0 (seen++[(q,e.nd.id)])=max (longest 0 seen) q.length:=by rw [longest_append];rfl
  refine ⟨rfl,_,⟨?_,rfl⟩,⟨rfl,rfl,rfl,Nat.le_of_eq (World.size_setCell _ _ _).symm,fun b _ hn=>?_⟩,fun b hb=>.inl hb⟩
  ·rw [hb]
   exact h.set_ 0 (.int .i64 (max (longest 0 seen) q.length:Nat))
  ·exact Below.heap_setCell w ⟨m,0,none⟩ _ b hn
set_option maxRecDepth 100000 in
theorem height_any {p:Nat} {av:Value} {gs:List Nat} {S:Nat→Prop} {t:T} {w:World} (h:TIn p av gs S t w) (hG:Tr.Good t) {i:Int} {ei:En} {gi:Nat} (hf:Tr.find t i=some ei) (hp:ptrOf gs t i=.pointer (some ⟨gi,0,none⟩)) :
    Calls Tryz.prog 126 #[.pointer (some ⟨p,0,none⟩),.pointer (some ⟨gi,0,none⟩)] w fun r w'=>r=.returned (.int .i64 (Tr.high t 64 i:Nat))∧Below w.heap.size w w':=by
 obtain ⟨dep,_,hd⟩:=hG.deep
 obtain ⟨wb,hwb⟩:∃ wb,wb=w.alloc (.cells #[.int .i64 0] 3):=⟨_,rfl⟩
 have hbw:Below w.heap.size w wb:=by rw [hwb];exact bN w _
 have hblk:Blk wb w.heap.size 3 [.int .i64 (longest 0 []:Nat)]:=by rw [hwb];exact Blk.new w _ _
 have hpre:WPre (hEye w.heap.size) p av gs S t (.slice none 0 0) [] [] (fun b=>b=w.heap.size) wb :=
  ⟨h.below hbw,SOwn.nil _,⟨hblk,rfl⟩,fun b hb hT=>by have:=h.lt hT;omega,fun b hb=>by cases hb⟩
 have HW:=Lib.hid (walk_any (hShows w.heap.size (Tr.walk t 64 i []).length) hG hd 64 i ei gi (.slice none 0 0) [] [] _ wb hf hp (fun _=>by omega) (by show 0+64≤_;omega) hpre (by simp))
 have HL:Hid (longest 0 (Tr.walk t 64 i [])=Tr.high t 64 i):=by
  show _=_
  rw [longest_walk t 64 i [] 0 (Nat.le_refl _)]
  show max 0 (0+_)=_
  omega
 have HB:=Lib.hid hbw
 clear hd hblk hpre h hG hf hp
 go_enter Tryz.func126,Tryz.ntmps126
 go_wp2_with fail
 rw [← hwb]
 refine HW.out.mono ?_
 rintro r w2 ⟨rfl,B2,hm⟩
 obtain ⟨hk,_⟩:=hm.at_
 rw [List.nil_append,HL.out] at hk
 have c0:w2.cell? ⟨w.heap.size,0,none⟩=some (.int .i64 (Tr.high t 64 i:Nat)):=hk.cell 0
 have HE:Hid (Below w.heap.size w w2):=by
  have h1:=hm.mod
  exact ⟨h1.os.trans hbw.os,h1.tape.trans hbw.tape,h1.output.trans hbw.output,Nat.le_trans hbw.size h1.size,fun b hlt=>(h1.block b (Nat.lt_of_lt_of_le hlt hbw.size) (fun hx=>by
   rcases hx with h2|h2
   ·omega
   ·cases h2)).trans (hbw.block b hlt)⟩
 clear hm hk hbw hwb
 go_wp2_with fail
 go_ret
 exact ⟨rfl,HE.out⟩
end Tm
end Go.Proofs.YtjoedamiilgajaaGreat
namespace Go.Proofs.YtjoedamiilgajaaGreat
open Go.RowKit Rc
open Tr (Nm En T)
namespace Tr
theorem within_eq (l o:List Bs):decide (o=l.take o.length)=within l o:=by
 unfold within
 rw [Bool.eq_iff_iff,decide_eq_true_iff,List.isPrefixOf_iff_prefix,List.prefix_iff_eq_take]
theorem high_le (t:T):∀ (n:Nat) (i:Int),high t n i≤n
 | 0,i=>Nat.le_refl _
 | n+1,i=>by
   rw [high]
   have key:∀ (l:List Nm) (m:Nat),m≤n+1→l.foldl (fun m k=>max m (1+high t n k.2)) m≤n+1:=by
    intro l
    induction l with
    | nil=>intro m h;exact h
    | cons k l ih =>
      intro m h
      rw [List.foldl_cons]
      have:=high_le t n k.2
      exact ih _ (by omega)
   exact key _ _ (by omega)
end Tr
namespace Tm
variable {p:Nat} {av:Value} {gs:List Nat} {S:Nat→Prop} {t t1:T} {w w1:World}
set_option maxRecDepth 100000 in
theorem rename_any (h:TIn p av gs S t w) (hG:Tr.Good t) (A B:Option Addr) (q r:List Bs) (cap cap2:Nat) (hr:RdS w A q) (hc:q.length≤cap) (hl:q.length≤1000000) (hs:∀ s ∈ q,s.length≤1000000) (hr2:RdS w B r) (hc2:r.length≤cap2) (hl2:r.length≤1000000) (hs2:∀ s ∈ r,s.length≤1000000) :
    Calls Tryz.prog 81 #[.pointer (some ⟨p,0,none⟩),.slice A q.length cap,.slice B r.length cap2] w (TTurn p (Tr.rename t q r).2 (.int .i64 ((Tr.rename t q r).1:Nat)) (TrS p av S) w):=by
 obtain ⟨wa,hwa⟩:∃ wa,wa=w.alloc (.cells #[.slice A q.length cap,.slice B r.length cap2] 26):=⟨_,rfl⟩
 have hba:Below w.heap.size w wa:=by rw [hwa];exact bN w _
 have HFM:=Lib.hid (formed_two w A B q r cap cap2 hr hc hl hs hr2 hc2 hl2 hs2)
 rw [← hwa] at HFM
 have HS:Hid (∀ x W,Below w.heap.size w W→TTurn p t x (TrS p av S) w (.returned x) W):=fun x W hW=>TTurn.stay h hW
 have HAT:=Lib.hid (at_any (h.below hba) hG A q cap (hr.below hba) hl)
 have HPQ:=Lib.hid (fun W (hW:Below w.heap.size w W)=>place_any (h.below hW) hG A q cap (hr.below hW) hc hl)
 have HPL:=Lib.hid (fun W (hW:Below w.heap.size w W)=>place_any (h.below hW) hG B r cap2 (hr2.below hW) hc2 hl2)
 have HWI:=Lib.hid (fun W (hW:Below w.heap.size w W)=>within_names W r q B A cap2 cap (hr2.below hW) (hr.below hW) hl2 hl)
 rw [Tr.within_eq] at HWI
 have HBA:=Lib.hid hba
 have H:=Lib.hid h
 have HG:=Lib.hid hG
 have hrl:=hl2
 obtain ⟨R,hR⟩:∃ R,R=Tr.rename t q r:=⟨_,rfl⟩
 rw [← hR]
 obtain ⟨fm,hfm⟩:∃ fm,fm=if Tr.formed q≠0 then Tr.formed q else Tr.formed r:=⟨_,rfl⟩
 rw [← hfm] at HFM
 have hR1:R=if fm≠0 then (fm,t) else if (Tr.lF t 0 q).2≠0 then ((Tr.lF t 0 q).2,t)
     else if q=[] then (1,t) else if (Tr.place t r).2.2≠0 then ((Tr.place t r).2.2,t)
     else if Tr.kindOf t (Tr.lF t 0 q).1=2∧Tr.within r q=true then (1,t)
     else if Tr.get (Tr.kids t (Tr.place t r).1) (Tr.place t r).2.1=some (Tr.lF t 0 q).1 then (0,t)
     else if (Tr.get (Tr.kids t (Tr.place t r).1) (Tr.place t r).2.1).isSome then (21,t)
     else if 8<r.length+Tr.high t 64 (Tr.lF t 0 q).1 then (3,t)
     else (0,Tr.put (Tr.cut t (Tr.place t q).1 (Tr.place t q).2.1) (Tr.place t r).1 (Tr.place t r).2.1 (Tr.lF t 0 q).1):=by
  rw [hR,hfm]
  unfold Tr.rename
  by_cases h1:Tr.formed q=0
  ·simp only [h1,ne_eq,not_true_eq_false,if_false]
  ·simp only [h1,ne_eq,not_false_eq_true,if_true]
 have HR1:=Lib.hid hR1
 have HSM:=Lib.hid hs2
 clear h hG hr hr2 hba hfm hs hs2 hR hR1
 go_enter Tryz.func81,Tryz.ntmps81
 go_wp2_with fail
 rw [← hwa]
 clear hwa
 refine HFM.out.mono ?_
 rintro e w1 ⟨rfl,rfl⟩
 by_cases hf:fm=0
 case neg =>
  have hfi:((fm:Int)==0)=false:=by rw [beq_eq_false_iff_ne];omega
  have HN:Hid (R=(fm,t)):=by
   have:=HR1.out
   rw [if_pos hf] at this
   exact this
  clear hf
  go_wp2_with fail
  go_ret
  rw [HN.out]
  exact HS.out _ _ HBA.out
 subst hf
 have HR2:=Lib.hid HR1.out
 simp only [ne_eq,not_true_eq_false,if_false] at HR2
 clear HR1
 go_wp2_with fail
 refine HAT.out.mono ?_
 rintro e w2 ⟨rfl,hb2⟩
 have HB2:Hid (Below w.heap.size w w2):=HBA.out.trans (hb2.mono HBA.out.size)
 clear hb2
 by_cases hfa:(Tr.lF t 0 q).2=0
 case neg =>
  obtain ⟨n,hn⟩:∃ n,n=(Tr.lF t 0 q).2:=⟨_,rfl⟩
  have HN:Hid (R=(n,t)):=by
   have:=HR2.out
   rw [if_pos hfa] at this
   rw [hn];exact this
  have hpp:ptrAt gs t q=.pointer none:=by unfold ptrAt;rw [if_neg hfa]
  rw [← hn] at hfa
  rw [hpp,← hn]
  have hni:((n:Int)==0)=false:=by rw [beq_eq_false_iff_ne];omega
  clear hfa hn hpp
  go_wp2_with fail
  go_ret
  rw [HN.out]
  exact HS.out _ _ HB2.out
 obtain ⟨ef,hef⟩:=Option.isSome_iff_exists.1 (HG.out.look_is hfa)
 obtain ⟨i,hi⟩:∃ i,i=(Tr.lF t 0 q).1:=⟨_,rfl⟩
 have hlk:Tr.lF t 0 q=(i,0):=Prod.ext hi.symm hfa
 have hpp:ptrAt gs t q=ptrOf gs t (Tr.lF t 0 q).1:=by unfold ptrAt;rw [if_pos hfa]
 have hR3:=HR2.out
 rw [if_neg (by rw [hfa];simp)] at hR3
 rw [hpp,hfa]
 rw [← hi] at hef hR3 ⊢
 obtain ⟨gf,Sf,hpf,hEf,_,_⟩:=(H.out.below HB2.out).ptr HG.out hef
 rw [Tr.kO hef] at hR3
 rw [hpf]
 have HR3:=Lib.hid hR3
 have HEF:=Lib.hid hef
 have HPF:=Lib.hid hpf
 have HLK:=Lib.hid hlk
 clear hfa hef hi hpf hEf hR3 HR2 hlk hpp
 go_wp2_with fail
 refine (HPQ.out w2 HB2.out).mono ?_
 rintro e w3 ⟨rfl,hb3⟩
 have HB3:Hid (Below w.heap.size w w3):=HB2.out.trans (hb3.mono HB2.out.size)
 clear hb3
 by_cases hq0:q=[]
 case pos =>
  subst hq0
  have hpv:placeV gs t []=.tuple #[.pointer none,.string (strOf []),.int .i64 1]:=by
   unfold placeV Tr.place
   rfl
  rw [hpv]
  have HN:Hid (R=(1,t)):=by
   have:=HR3.out
   rw [if_pos rfl] at this
   exact this
  clear hpv
  go_wp2_with fail
  go_ret
  rw [HN.out]
  exact HS.out _ _ HB3.out
 obtain ⟨q1,x0,d0,en0,hqe,hlr,hfd0,hkd0,hg0,hpl0⟩:=HG.out.looked HLK.out hq0
 have hR4:=HR3.out
 rw [if_neg hq0,hpl0] at hR4
 obtain ⟨gd0,Sd0,hpd0,_,_,hnl0⟩:=(H.out.below HB3.out).ptr HG.out hfd0
 have hpv0:placeV gs t q=.tuple #[.pointer (some ⟨gd0,0,none⟩),.string (strOf x0),.int .i64 0]:=by
  unfold placeV
  rw [hpl0]
  simp only [if_true,hpd0];rfl
 rw [hpv0]
 have HR4:=Lib.hid hR4
 have HFD0:=Lib.hid hfd0
 have HPD0:=Lib.hid hpd0
 have HNL0:=Lib.hid hnl0
 clear hq0 hqe hlr hfd0 hkd0 hg0 hpl0 hR4 hpd0 hnl0 hpv0 HR3
 go_wp2_with fail
 refine (HPL.out w3 HB3.out).mono ?_
 rintro e w4 ⟨rfl,hb4⟩
 have HB4:Hid (Below w.heap.size w w4):=HB3.out.trans (hb4.mono HB3.out.size)
 clear hb4
 by_cases hp0:(Tr.place t r).2.2=0
 case neg =>
  obtain ⟨pn,hpn⟩:∃ pn,pn=(Tr.place t r).2.2:=⟨_,rfl⟩
  have HN:Hid (R=(pn,t)):=by
   have:=HR4.out
   rw [if_pos hp0,← hpn] at this
   exact this
  have hpi:((pn:Int)==0)=false:=by rw [beq_eq_false_iff_ne];omega
  unfold placeV
  rw [if_neg hp0,← hpn]
  obtain ⟨px,hpx⟩:∃ px,px=(Tr.place t r).2.1:=⟨_,rfl⟩
  rw [← hpx]
  clear hp0 hpn hpx
  go_wp2_with fail
  go_ret
  rw [HN.out]
  exact HS.out _ _ HB4.out
 obtain ⟨r1,x,en,hq,hlkr,hx,hfd,hkd,hplace⟩:=Tr.place_is HG.out hp0
 obtain ⟨d,hd⟩:∃ d,d=en.nd.id:=⟨_,rfl⟩
 rw [hplace] at hfd
 rw [← hd] at hplace hfd
 simp only at hfd
 obtain ⟨gd,Sd,hpd,hEd,_,hnl⟩:=(H.out.below HB4.out).ptr HG.out hfd
 have HPV:Hid (placeV gs t r=.tuple #[.pointer (some ⟨gd,0,none⟩),.string (strOf x),.int .i64 0]):=by
  show _=_
  unfold placeV
  rw [hplace]
  simp only [if_true,hpd];rfl
 have hxl:x.length≤1000000:=HSM.out x (by rw [hq];simp)
 have hR5:=HR4.out
 rw [hplace] at hR5
 simp only [ne_eq,not_true_eq_false,if_false] at hR5
 rw [Tr.kids_of hfd] at hR5
 have HFD:=Lib.hid hfd
 have HPD:=Lib.hid hpd
 have HNL:=Lib.hid hnl
 have HXL:=Lib.hid hxl
 have HR5:=Lib.hid hR5
 rw [HPV.out]
 obtain ⟨gf2,Sf2,hpf2,hEf2,_,_⟩:=(H.out.below HB4.out).ptr HG.out HEF.out
 obtain rfl:gf2=gf:=ptr_inj (hpf2.symm.trans HPF.out)
 have c1:=hEf2.cells.2.1
 obtain ⟨ek,hek⟩:∃ ek,ek=ef.nd.kind:=⟨_,rfl⟩
 rw [← hek] at c1 HR5
 obtain ⟨b,hb⟩:∃ b,b=Tr.within r q:=⟨_,rfl⟩
 rw [← hb] at HR5 HWI
 have HWJ:=Lib.hid (HWI.out w4 HB4.out)
 have HID:Hid (∀ W,Below w.heap.size w W→Calls Tryz.prog 105 #[.pointer (some ⟨gd,0,none⟩),.string (strOf x)] W (fun r w'=>r=.returned (told (Tr.get en.names x))∧Below W.heap.size W w')∧W.cell? ⟨gf2,0,none⟩=some (.int .i64 i)):=fun W hW=>by
  obtain ⟨g3,S3,hp3,hE3,_,hn3⟩:=(H.out.below hW).ptr HG.out HFD.out
  obtain rfl:g3=gd:=ptr_inj (hp3.symm.trans HPD.out)
  obtain ⟨g4,S4,hp4,hE4,_,_⟩:=(H.out.below hW).ptr HG.out HEF.out
  obtain rfl:g4=gf2:=ptr_inj (hp4.symm.trans HPF.out)
  exact ⟨id_any hE3 x (by omega),by rw [hE4.cells.1,(Tr.find_some HEF.out).2]⟩
 have HHI:Hid (∀ W,Below w.heap.size w W→Calls Tryz.prog 126 #[.pointer (some ⟨p,0,none⟩),.pointer (some ⟨gf2,0,none⟩)] W fun r w'=>r=.returned (.int .i64 (Tr.high t 64 i:Nat))∧Below W.heap.size W w'):=fun W hW=>height_any (H.out.below hW) HG.out HEF.out HPF.out
 clear hp0 hq hlkr hx hfd hkd hplace hpd hEd hR5 hnl hxl hd HR4 hpf2 hEf2 hek hb HWI
 have key:Hid ((ek=2∧b=true)∨(ek=2∧b=false)∨ek≠2):=by
  show _∨_
  by_cases h:ek=2
  ·cases b
   ·exact .inr (.inl ⟨h,rfl⟩)
   ·exact .inl ⟨h,rfl⟩
  ·exact .inr (.inr h)
 rcases key.out with ⟨h2,hb⟩|h2
 ·subst h2 hb
  have HN:Hid (R=(1,t)):=by
   have:=HR5.out
   rw [if_pos ⟨rfl,rfl⟩] at this
   exact this
  clear key
  go_wp2_with fail
  refine HWJ.out.mono ?_
  rintro e w5 ⟨rfl,rfl⟩
  go_wp2_with fail
  go_ret
  rw [HN.out]
  exact HS.out _ _ HB4.out
 have HR6:Hid (R=if Tr.get en.names x=some i then (0,t) else if (Tr.get en.names x).isSome then (21,t) else if 8<r.length+Tr.high t 64 i then (3,t) else (0,Tr.put (Tr.cut t d0 x0) d x i)):=by
  have:=HR5.out
  rw [if_neg (by rintro ⟨h3,h4⟩;rcases h2 with ⟨_,h5⟩|h5;· rw [h5] at h4;cases h4
                 ·exact h5 h3)] at this
  exact this
 clear HR5 key
 obtain ⟨o,ho⟩:∃ o,o=Tr.get en.names x:=⟨_,rfl⟩
 rw [← ho] at HR6 HID
 clear ho
 rcases h2 with ⟨h2,hb⟩|h2
 ·subst h2 hb
  go_wp2_with fail
  refine HWJ.out.mono ?_
  rintro e w5 ⟨rfl,rfl⟩
  go_wp2_with fail
  refine (HID.out w4 HB4.out).1.mono ?_
  rintro e w6 ⟨rfl,hb6⟩
  have HB6:Hid (Below w.heap.size w w6):=HB4.out.trans (hb6.mono HB4.out.size)
  have c0:=(HID.out w6 HB6.out).2
  clear hb6 c1
  unfold told
  cases o with
  | some k =>
    by_cases hki:k=i
    ·subst hki
     have HN:Hid (R=(0,t)):=by
      have:=HR6.out
      rw [if_pos rfl] at this
      exact this
     go_wp2_with fail
     go_ret
     rw [HN.out]
     exact HS.out _ _ HB6.out
    ·have hkb:(k==i)=false:=by rw [beq_eq_false_iff_ne];exact hki
     have HN:Hid (R=(21,t)):=by
      have:=HR6.out
      rw [if_neg (fun e=>hki (Option.some.inj e)),if_pos (show (some k).isSome=true from rfl)] at this
      exact this
     clear hki
     go_wp2_with fail
     go_ret
     rw [HN.out]
     exact HS.out _ _ HB6.out
  | none =>
    have HR7:Hid (R=if 8<r.length+Tr.high t 64 i then (3,t) else (0,Tr.put (Tr.cut t d0 x0) d x i)):=by
     have:=HR6.out
     rw [if_neg (by simp),if_neg (by simp)] at this
     exact this
    have HHJ:=Lib.hid (HHI.out w6 HB6.out)
    have hhl:=Tr.high_le t 64 i
    obtain ⟨hi,hhi⟩:∃ hi,hi=Tr.high t 64 i:=⟨_,rfl⟩
    rw [← hhi] at HR7 HHJ hhl
    obtain ⟨rl,hrl2⟩:∃ rl,rl=r.length:=⟨_,rfl⟩
    rw [← hrl2] at HR7 hrl
    have wl:IntKind.i64.wrap ((r.length:Int)+(hi:Int))=((rl+hi:Nat):Int):=by rw [IntKind.wrap_i64,← hrl2];omega
    clear HHI hhi c0
    go_wp2_with fail
    refine HHJ.out.mono ?_
    rintro e w7 ⟨rfl,hb7⟩
    have HB7:Hid (Below w.heap.size w w7):=HB6.out.trans (hb7.mono HB6.out.size)
    clear hb7
    by_cases h8:8<rl+hi
    ·have h8i:(8:Int)<((rl+hi:Nat):Int):=by omega
     have HN:Hid (R=(3,t)):=by
      have:=HR7.out
      rw [if_pos h8] at this
      exact this
     clear h8
     go_wp2_with fail
     go_ret
     rw [HN.out]
     exact HS.out _ _ HB7.out
    have h8i:¬ (8:Int)<((rl+hi:Nat):Int):=by omega
    have HN:Hid (R=(0,Tr.put (Tr.cut t d0 x0) d x i)):=by
     have:=HR7.out
     rw [if_neg h8] at this
     exact this
    have HDROP:=Lib.hid ((Went.start H.out HB7.out).drop HG.out.ris HFD0.out HPD0.out x0 (by have:=HNL0.out;omega))
    clear h8
    go_wp2_with fail
    refine HDROP.out.mono ?_
    rintro e w8 ⟨rfl,hW8⟩
    have hfid:∀ e:En,({ e with names:=Tr.del e.names x0 }:En).nd.id=e.nd.id:=fun _=>rfl
    have hr8:Tr.Ris (Tr.cut t d0 x0):=Tr.upd_ris HG.out.ris hfid
    have hany:∀ (j:Int) (e0:En),Tr.find t j=some e0→∃ e5,Tr.find (Tr.cut t d0 x0) j=some e5∧e5.nd.id=j∧e5.names.length≤e0.names.length:=fun j e0 hj=>by
     unfold Tr.cut
     rw [Tr.find_upd hfid,hj]
     refine ⟨_,rfl,?_⟩
     have:=(Tr.find_some hj).2
     dsimp only
     split
     ·exact ⟨this,List.length_filter_le _ _⟩
     ·exact ⟨this,Nat.le_refl _⟩
    have hptr:∀ j,ptrOf gs (Tr.cut t d0 x0) j=ptrOf gs t j:=fun j=>by unfold Tr.cut;rw [ptrOf_upd hfid]
    obtain ⟨e8,hf8,hid8,_⟩:=hany i ef HEF.out
    obtain ⟨c8,_⟩:=hW8.links hr8 hf8 ((hptr i).trans HPF.out)
    rw [hid8] at c8
    obtain ⟨e9,hf9,hid9,hn9⟩:=hany d en HFD.out
    have HPUT:=Lib.hid (hW8.put hr8 hf9 ((hptr d).trans HPD.out) x i (by have:=HNL.out;omega) HXL.out)
    clear hW8 hfid hr8 hany hptr hf8 hid8 hf9 hid9 hn9
    go_wp2_with fail
    refine HPUT.out.mono ?_
    rintro e w9 ⟨rfl,hW9⟩
    have HW9:=Lib.hid hW9
    clear hW9
    go_wp2_with fail
    go_ret
    rw [HN.out]
    exact HW9.out.done _
 ·have hk2:(ek==2)=false:=by rw [beq_eq_false_iff_ne];exact h2
  clear h2
  go_wp2_with fail
  refine (HID.out w4 HB4.out).1.mono ?_
  rintro e w6 ⟨rfl,hb6⟩
  have HB6:Hid (Below w.heap.size w w6):=HB4.out.trans (hb6.mono HB4.out.size)
  have c0:=(HID.out w6 HB6.out).2
  clear hb6 c1
  unfold told
  cases o with
  | some k =>
    by_cases hki:k=i
    ·subst hki
     have HN:Hid (R=(0,t)):=by
      have:=HR6.out
      rw [if_pos rfl] at this
      exact this
     go_wp2_with fail
     go_ret
     rw [HN.out]
     exact HS.out _ _ HB6.out
    ·have hkb:(k==i)=false:=by rw [beq_eq_false_iff_ne];exact hki
     have HN:Hid (R=(21,t)):=by
      have:=HR6.out
      rw [if_neg (fun e=>hki (Option.some.inj e)),if_pos (show (some k).isSome=true from rfl)] at this
      exact this
     clear hki
     go_wp2_with fail
     go_ret
     rw [HN.out]
     exact HS.out _ _ HB6.out
  | none =>
    have HR7:Hid (R=if 8<r.length+Tr.high t 64 i then (3,t) else (0,Tr.put (Tr.cut t d0 x0) d x i)):=by
     have:=HR6.out
     rw [if_neg (by simp),if_neg (by simp)] at this
     exact this
    have HHJ:=Lib.hid (HHI.out w6 HB6.out)
    have hhl:=Tr.high_le t 64 i
    obtain ⟨hi,hhi⟩:∃ hi,hi=Tr.high t 64 i:=⟨_,rfl⟩
    rw [← hhi] at HR7 HHJ hhl
    obtain ⟨rl,hrl2⟩:∃ rl,rl=r.length:=⟨_,rfl⟩
    rw [← hrl2] at HR7 hrl
    have wl:IntKind.i64.wrap ((r.length:Int)+(hi:Int))=((rl+hi:Nat):Int):=by rw [IntKind.wrap_i64,← hrl2];omega
    clear HHI hhi c0
    go_wp2_with fail
    refine HHJ.out.mono ?_
    rintro e w7 ⟨rfl,hb7⟩
    have HB7:Hid (Below w.heap.size w w7):=HB6.out.trans (hb7.mono HB6.out.size)
    clear hb7
    by_cases h8:8<rl+hi
    ·have h8i:(8:Int)<((rl+hi:Nat):Int):=by omega
     have HN:Hid (R=(3,t)):=by
      have:=HR7.out
      rw [if_pos h8] at this
      exact this
     clear h8
     go_wp2_with fail
     go_ret
     rw [HN.out]
     exact HS.out _ _ HB7.out
    have h8i:¬ (8:Int)<((rl+hi:Nat):Int):=by omega
    have HN:Hid (R=(0,Tr.put (Tr.cut t d0 x0) d x i)):=by
     have:=HR7.out
     rw [if_neg h8] at this
     exact this
    have HDROP:=Lib.hid ((Went.start H.out HB7.out).drop HG.out.ris HFD0.out HPD0.out x0 (by have:=HNL0.out;omega))
    clear h8
    go_wp2_with fail
    refine HDROP.out.mono ?_
    rintro e w8 ⟨rfl,hW8⟩
    have hfid:∀ e:En,({ e with names:=Tr.del e.names x0 }:En).nd.id=e.nd.id:=fun _=>rfl
    have hr8:Tr.Ris (Tr.cut t d0 x0):=Tr.upd_ris HG.out.ris hfid
    have hany:∀ (j:Int) (e0:En),Tr.find t j=some e0→∃ e5,Tr.find (Tr.cut t d0 x0) j=some e5∧e5.nd.id=j∧e5.names.length≤e0.names.length:=fun j e0 hj=>by
     unfold Tr.cut
     rw [Tr.find_upd hfid,hj]
     refine ⟨_,rfl,?_⟩
     have:=(Tr.find_some hj).2
     dsimp only
     split
     ·exact ⟨this,List.length_filter_le _ _⟩
     ·exact ⟨this,Nat.le_refl _⟩
    have hptr:∀ j,ptrOf gs (Tr.cut t d0 x0) j=ptrOf gs t j:=fun j=>by unfold Tr.cut;rw [ptrOf_upd hfid]
    obtain ⟨e8,hf8,hid8,_⟩:=hany i ef HEF.out
    obtain ⟨c8,_⟩:=hW8.links hr8 hf8 ((hptr i).trans HPF.out)
    rw [hid8] at c8
    obtain ⟨e9,hf9,hid9,hn9⟩:=hany d en HFD.out
    have HPUT:=Lib.hid (hW8.put hr8 hf9 ((hptr d).trans HPD.out) x i (by have:=HNL.out;omega) HXL.out)
    clear hW8 hfid hr8 hany hptr hf8 hid8 hf9 hid9 hn9
    go_wp2_with fail
    refine HPUT.out.mono ?_
    rintro e w9 ⟨rfl,hW9⟩
    have HW9:=Lib.hid hW9
    clear hW9
    go_wp2_with fail
    go_ret
    rw [HN.out]
    exact HW9.out.done _
end Tm
end Go.Proofs.YtjoedamiilgajaaGreat
namespace Go.Proofs.YtjoedamiilgajaaGreat
open Go.RowKit Rc
open Tr (Nm En T)
namespace Tm
variable {v:Value} {w0 w:World} {t:T} {B:Nat→Prop}
end Tm
end Go.Proofs.YtjoedamiilgajaaGreat
