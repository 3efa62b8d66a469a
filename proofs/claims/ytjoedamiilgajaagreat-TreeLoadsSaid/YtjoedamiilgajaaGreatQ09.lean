/-
  OWN WORK. RfUnl, RfDeep, RfNew, RfRen
-/
import Derived.Test.YtjoedamiilgajaaGreatQ08
import Derived.Deep.RegionHeld3
set_option maxHeartbeats 2000000
namespace Go.Proofs.YtjoedamiilgajaaGreat
open Go.RowKit Rc
open Tr (Nm En T)
namespace Rf
variable {p:Nat} {nv dv ev nv2 dv2 ev2:Value} {D D2:Nat→Prop} {t t':T} {w w1 w2:World}
theorem Left.apart {S:Nat→Prop} {n0:Nat} (h:Left p t' S w w1 nv dv ev D) (hS:∀ b,S b→b<n0) {b:Nat} (h1:n0≤b) (h2:b<w.heap.size):w1.heap[b]?=w.heap[b]?:=h.mod.block b h2 fun e=>by have:=hS b e;omega
theorem rm_name (hG:Tr.Good t) {d i:Int} {x:Bs} {en:En} (hf:Tr.find t d=some en) (hg:Tr.get en.names x=some i) (h:RA p nv dv ev D t w):∃ j:Nat,idxE (Tr.flat t) d x=(j:Int)∧∀ W,Below w.heap.size w W→Calls Tryz.prog 62 #[.pointer (some ⟨p,0,none⟩),.int .i64 (j:Nat)] W fun e w'=>e=.returned (.tuple #[])∧∃ nv2 dv2 ev2 D2,Left p (Tr.cut t d x) (RS p nv ev D) W w' nv2 dv2 ev2 D2:=by
 rcases flat_idx hG d x with ⟨k1,_⟩|⟨k,j,k1,k2,k3,k4⟩
 ·rw [Tr.kids_of hf,hg] at k1;cases k1
 ·rw [Tr.kids_of hf,hg] at k1
  injection k1 with k1
  subst k1
  refine ⟨j,k2,fun W hW=>(cut_any (h.below hW) j k4 (by have:=hG.flat_le;omega) (flat_cut_at hG k3) (cut_maps t d x).1 (cut_maps t d x).2).mono ?_⟩
  intro e w' ht
  exact ht.left
theorem gone_of (hr:Tr.Ris t) (hfew:t.length≤64) {i:Int} {e:En} (hf:Tr.find t i=some e) (hn:e.names=[]) (h:RA p nv dv ev D t w):Calls Tryz.prog 63 #[.pointer (some ⟨p,0,none⟩),.int .i64 i] w (RTurn p (Tr.remove t i) (.tuple #[]) (RS p nv ev D) w):=by
 rcases idx_find t i with ⟨h1,_⟩|⟨e',j,h1,h2,h3,h4⟩
 ·rw [h1] at hf;cases hf
 ·rw [hf] at h1
  injection h1 with h1
  subst h1
  refine gone_any h i j h4 h3 (by omega) (remove_at hr h2 (Tr.find_some hf).2) (flat_remove fun m hm hmi=>?_)
  have k1:=hr.find hm
  rw [hmi,hf] at k1
  injection k1 with k1
  rw [← k1];exact hn
set_option maxRecDepth 100000 in
theorem unlink_any (h:RA p nv dv ev D t w) (hG:Tr.Good t) (A:Option Addr) (q:List Bs) (cap:Nat) (hr:RdS w A q) (hc:q.length≤cap) (hl:q.length≤1000000) (hs:∀ s ∈ q,s.length≤1000000) :
    Calls Tryz.prog 16 #[.pointer (some ⟨p,0,none⟩),.slice A q.length cap] w (RTurn p (Tr.unlink t q).2 (.int .i64 ((Tr.unlink t q).1:Nat)) (RS p nv ev D) w):=by
 have HS:Hid (∀ x W,Below w.heap.size w W→RTurn p t x (RS p nv ev D) w (.returned x) W):=fun x W hW=>RTurn.stay h hW
 have H1:=Lib.hid (look_any h.in_ hG h.low A q cap hr hl hs)
 obtain ⟨i,n,hin⟩:∃ i n,Tr.look t q=(i,n):=⟨_,_,rfl⟩
 rw [hin] at H1
 have hlf:n=0→Tr.formed q=0∧Tr.lF t 0 q=(i,0):=fun hn=>by
  subst hn
  unfold Tr.look at hin
  by_cases hf:Tr.formed q=0
  ·rw [if_neg (by simp [hf])] at hin
   exact ⟨hf,hin⟩
  ·rw [if_pos hf] at hin
   injection hin with _ h2
   exact absurd h2 hf
 have hunl:Tr.unlink t q=if n≠0 then (n,t) else if (Tr.ndOf t i).kind=2 then (22,t) else if (Tr.ndOf t i).links=1∧(Tr.ndOf t i).shut=true then (0,Tr.remove (Tr.unlinked t q) i) else (0,Tr.unlinked t q):=by
  unfold Tr.unlink Tr.kindOf
  unfold Tr.look at hin
  by_cases hf:Tr.formed q=0
  ·rw [if_neg (by simp [hf])] at hin
   rw [if_neg (by simp [hf]),hin]
  ·rw [if_pos hf] at hin
   injection hin with h1 h2
   rw [if_pos hf,if_pos (by rw [← h2];exact hf),h2]
 have H3:Hid (∀ W,Below w.heap.size w W→Calls Tryz.prog 35 #[.pointer (some ⟨p,0,none⟩),.int .i64 i] W fun e w'=>e=.returned (.tuple #[(Tr.node t i).1.val,.bool (Tr.node t i).2])∧Below W.heap.size W w'):=fun W hW=>node_any (h.below hW).in_ (h.below hW).low i (by have:=hG.few;omega)
 have HGO:Hid (n=0→(Tr.ndOf t i).kind≠2→∃ (d:Int) (x:Bs) (j:Nat),
     (∀ W,Below w.heap.size w W→Calls Tryz.prog 53 #[.pointer (some ⟨p,0,none⟩),.slice A q.length cap] W fun e w'=>e=.returned (.tuple #[.int .i64 d,.string (strOf x),.int .i64 0])∧Below W.heap.size W w') ∧
     (∀ W,Below w.heap.size w W→Calls Tryz.prog 54 #[.pointer (some ⟨p,0,none⟩),.int .i64 d,.string (strOf x)] W fun e w'=>e=.returned (.int .i64 (j:Nat))∧w'=W) ∧
     (∀ W,Below w.heap.size w W→Calls Tryz.prog 62 #[.pointer (some ⟨p,0,none⟩),.int .i64 (j:Nat)] W fun e w'=>e=.returned (.tuple #[])∧∃ nv2 dv2 ev2 D2,Left p (Tr.cut t d x) (RS p nv ev D) W w' nv2 dv2 ev2 D2) ∧
     (∀ W nv2 dv2 ev2 D2,RA p nv2 dv2 ev2 D2 (Tr.cut t d x) W→Calls Tryz.prog 67 #[.pointer (some ⟨p,0,none⟩),.int .i64 i,.int .i64 (-1)] W (RTurn p (Tr.unlinked t q) (.tuple #[]) (RS p nv2 ev2 D2) W)) ∧
     (∀ W nv2 dv2 ev2 D2,RA p nv2 dv2 ev2 D2 (Tr.unlinked t q) W→Calls Tryz.prog 63 #[.pointer (some ⟨p,0,none⟩),.int .i64 i] W (RTurn p (Tr.remove (Tr.unlinked t q) i) (.tuple #[]) (RS p nv2 ev2 D2) W))):=fun hn hk=>by
  obtain ⟨hf0,hlk⟩:=hlf hn
  have hqne:q≠[]:=by
   rintro rfl
   have:(0,0)=((i,0):Int × Nat):=hlk
   injection this with h1 _
   subst h1
   obtain ⟨z,hz,hzk,_⟩:=hG.zero
   rw [Tr.ndOf_of hz] at hk
   exact hk hzk
  obtain ⟨r,x,d,en,_,_,k3,_,k5,k6⟩:=hG.looked hlk hqne
  obtain ⟨j,m1,m2⟩:=rm_name hG k3 k5 h
  have hsm:=hG.look_is (p:=q) (by rw [hlk])
  rw [hlk] at hsm
  obtain ⟨ei,hei⟩:=Option.isSome_iff_exists.1 hsm
  have hkf:ei.nd.kind≠2:=by rw [Tr.ndOf_of hei] at hk;exact hk
  have hnm:ei.names=[]:=(hG.each ei (Tr.find_some hei).1).file (by
   rcases hG.kind (Tr.find_some hei).1 with k|k
   ·exact k
   ·exact absurd k hkf)
  have hfc:Tr.find (Tr.cut t d x) i=some (if i=d then { ei with names:=Tr.del ei.names x } else ei):=by
   unfold Tr.cut
   rw [Tr.find_upd (Tr.cut_id x),hei];rfl
  have hnd:(if i=d then { ei with names:=Tr.del ei.names x } else ei:En).nd=ei.nd:=by split <;> rfl
  have hnc:(if i=d then { ei with names:=Tr.del ei.names x } else ei:En).names=[]:=by
   split
   ·show Tr.del ei.names x=[]
    rw [hnm];rfl
   ·exact hnm
  have hrc:Tr.Ris (Tr.cut t d x):=Tr.upd_ris hG.ris fun _=>rfl
  have hlc:(Tr.cut t d x).length≤64:=by unfold Tr.cut;rw [Tr.upd_length];exact hG.few
  have hun:Tr.unlinked t q=Tr.more (Tr.cut t d x) i (-1):=by
   unfold Tr.unlinked
   rw [k6,hlk]
  have hfm:∃ e2,Tr.find (Tr.more (Tr.cut t d x) i (-1)) i=some e2∧e2.names=[]:=by
   refine ⟨_,Tr.find_upd_same (fun _=>rfl) hfc,hnc⟩
  obtain ⟨e2,hf2,hn2⟩:=hfm
  refine ⟨d,x,j,fun W hW=>?_,fun W hW=>?_,m2,fun W nv2 dv2 ev2 D2 hW=>?_,fun W nv2 dv2 ev2 D2 hW=>?_⟩
  ·have:=place_any (h.below hW) hG A q cap (hr.below hW) hc hl
   rw [k6] at this
   exact this
  ·have:=entry_any (h.below hW).in_ d x (by have:=hG.flat_le;omega)
   rw [m1] at this
   exact this
  ·rw [hun]
   exact links_any hW hrc (by omega) hfc (-1) ⟨by omega,by omega⟩ (by
    have hrt:=(hG.each ei (Tr.find_some hei).1).nd
    rw [hnd]
    exact ⟨hrt.2.2.1,by have:=hrt.2.2.2.1;omega⟩)
  ·rw [hun] at hW ⊢
   exact gone_of (t:=Tr.more (Tr.cut t d x) i (-1)) (Tr.upd_ris hrc fun _=>rfl) (by unfold Tr.more;rw [Tr.upd_length];exact hlc) hf2 hn2 hW
 have e0:Tr.node t i=(Tr.ndOf t i,(Tr.find t i).isSome):=rfl
 rw [e0] at H3
 obtain ⟨fo,hfo⟩:∃ fo,fo=(Tr.find t i).isSome:=⟨_,rfl⟩
 rw [← hfo] at H3
 obtain ⟨⟨a1,a2,a3,a4,a5,a6⟩,hnd⟩:∃ nd,nd=Tr.ndOf t i:=⟨_,rfl⟩
 rw [← hnd] at H3 hunl HGO
 unfold Nd.val at H3
 simp only at H3 hunl HGO
 have HUN:=Lib.hid hunl
 have HRL:Hid (∀ b,RS p nv ev D b→b<w.heap.size):=fun b hb=>h.lt hb
 have HLF0:Hid (∀ W,Below w.heap.size w W→Left p t (RS p nv ev D) w W nv dv ev D):=fun W hW=>h.left.later hW
 clear h hG hr hs hin hunl e0 hfo hnd hlf hc hl
 go_enter Tryz.func16,Tryz.ntmps16
 go_wp2_with fail
 refine H1.out.mono ?_
 rintro e w2 ⟨rfl,hb2⟩
 have HB2:=Lib.hid hb2
 clear hb2 H1
 by_cases hn:n=0
 case neg =>
  have hnb:((n:Int) != 0)=true:=by rw [bne_iff_ne];omega
  have HN:Hid (Tr.unlink t q=(n,t)):=by
   have:=HUN.out
   rw [if_pos hn] at this
   exact this
  clear hn HUN
  go_wp2_with fail
  go_ret
  rw [HN.out]
  exact HS.out _ _ HB2.out
 subst hn
 rw [if_neg (by simp)] at HUN
 have H3a:=Lib.hid (H3.out _ HB2.out)
 go_wp2_with fail
 refine H3a.out.mono ?_
 rintro e w3 ⟨rfl,hb3⟩
 have HB3:Hid (Below w.heap.size w w3):=HB2.out.trans (hb3.mono HB2.out.size)
 obtain ⟨wb,hwb⟩:∃ wb,wb=w3.alloc (.cells #[.int .i64 a1,.int .i64 a2,.int .i64 a3,.int .i64 a4,.int .u64 (a5:Nat),.bool a6] 59):=⟨_,rfl⟩
 have HB4:Hid (Below w.heap.size w wb):=by show Below _ _ _;rw [hwb];exact HB3.out.alloc HB3.out.size _
 have HBK:Hid (Blk wb w3.heap.size 59 [.int .i64 a1,.int .i64 a2,.int .i64 a3,.int .i64 a4,.int .u64 (a5:Nat),.bool a6]):=by show Blk _ _ _ _;rw [hwb];exact Blk.new w3 _ _
 clear hb3 H3 H3a
 go_upto_region 5 with (fail)
 rw [← hwb]
 clear hwb
 have c1:wb.cell? ⟨w3.heap.size,1,none⟩=some (.int .i64 a2):=HBK.out.cell 1
 by_cases h2:a2=2
 ·have HN:Hid (Tr.unlink t q=(22,t)):=by
   have:=HUN.out
   rw [if_pos h2] at this
   exact this
  subst h2
  clear HUN
  go_wp2_with fail
  go_ret
  rw [HN.out]
  exact HS.out _ _ HB4.out
 have h2b:(a2==2)=false:=by rw [beq_eq_false_iff_ne];exact h2
 rw [if_neg h2] at HUN
 obtain ⟨d,x,j,G1,G2,G3,G4,G5⟩:=HGO.out (by first|rfl|trivial) h2
 have G1a:=Lib.hid (G1 wb HB4.out)
 have G2:=Lib.hid G2
 have G3:=Lib.hid G3
 have G4:=Lib.hid G4
 have G5:=Lib.hid G5
 clear h2 G1 HGO
 go_wp2_with fail
 refine G1a.out.mono ?_
 rintro e w5 ⟨rfl,hb5⟩
 have HB5:Hid (Below w.heap.size w w5):=HB4.out.trans (hb5.mono HB4.out.size)
 have HBK5:Hid (Blk w5 w3.heap.size 59 [.int .i64 a1,.int .i64 a2,.int .i64 a3,.int .i64 a4,.int .u64 (a5:Nat),.bool a6]):=HBK.out.below hb5 HBK.out.lt
 have G2a:=Lib.hid (G2.out w5 HB5.out)
 have G3a:=Lib.hid (G3.out w5 HB5.out)
 clear hb5 c1 HBK G1a G2 G3
 go_wp2_with fail
 refine G2a.out.mono ?_
 rintro e w6 ⟨rfl,rfl⟩
 go_wp2_with fail
 refine G3a.out.mono ?_
 rintro e w7 ⟨rfl,nv2,dv2,ev2,D2,hl7⟩
 have HL7:Hid (Left p (Tr.cut t d x) (RS p nv ev D) w w7 nv2 dv2 ev2 D2):=(HLF0.out w6 HB5.out).then hl7
 have HBK7:Hid (Blk w7 w3.heap.size 59 [.int .i64 a1,.int .i64 a2,.int .i64 a3,.int .i64 a4,.int .u64 (a5:Nat),.bool a6]):=(hl7.apart HRL.out HB3.out.size HBK5.out.lt).trans HBK5.out
 have HSUB:Hid (∀ b,RS p nv2 ev2 D2 b→RS p nv ev D b∨w6.heap.size≤b):=hl7.sub
 have HLT6:Hid (w3.heap.size<w6.heap.size):=HBK5.out.lt
 have G4a:=Lib.hid (G4.out w7 _ _ _ _ hl7.ra)
 clear hl7 G2a G3a G4 HBK5
 go_wp2_with fail
 refine G4a.out.mono ?_
 intro e w8 ht8
 obtain ⟨rfl,nv3,dv3,ev3,D3,hl8⟩:=ht8.left
 have HL8:Hid (Left p (Tr.unlinked t q) (RS p nv ev D) w w8 nv3 dv3 ev3 D3):=HL7.out.then hl8
 have hbk8:Blk w8 w3.heap.size 59 [.int .i64 a1,.int .i64 a2,.int .i64 a3,.int .i64 a4,.int .u64 (a5:Nat),.bool a6]:=(hl8.mod.block _ HBK7.out.lt fun e=>by
  rcases HSUB.out _ e with k|k
  ·have:=HRL.out _ k;have:=HB3.out.size;omega
  ·have:=HLT6.out;omega).trans HBK7.out
 have c2:w8.cell? ⟨w3.heap.size,2,none⟩=some (.int .i64 a3):=hbk8.cell 2
 have c5:w8.cell? ⟨w3.heap.size,5,none⟩=some (.bool a6):=hbk8.cell 5
 have G5a:=Lib.hid (G5.out w8 _ _ _ _ HL8.out.ra)
 clear hbk8 hl8 ht8 G4a G5 HL7 HBK7 HSUB HLT6
 by_cases h1:a3=1
 ·subst h1
  cases a6 with
  | true =>
    have HN:Hid (Tr.unlink t q=(0,Tr.remove (Tr.unlinked t q) i)):=by
     have:=HUN.out
     rw [if_pos ⟨rfl,rfl⟩] at this
     exact this
    clear HUN
    go_wp2_with fail
    refine G5a.out.mono ?_
    intro e w9 ht9
    obtain ⟨rfl,nv4,dv4,ev4,D4,hl9⟩:=ht9.left
    have HL9:Hid (RTurn p (Tr.remove (Tr.unlinked t q) i) (.int .i64 0) (RS p nv ev D) w (.returned (.int .i64 0)) w9):=(HL8.out.then hl9).turn
    clear hl9 ht9
    go_wp2_with fail
    go_ret
    rw [HN.out]
    exact HL9.out
  | false =>
    have HN:Hid (Tr.unlink t q=(0,Tr.unlinked t q)):=by
     have:=HUN.out
     rw [if_neg (by simp)] at this
     exact this
    have HL9:Hid (RTurn p (Tr.unlinked t q) (.int .i64 0) (RS p nv ev D) w (.returned (.int .i64 0)) w8):=HL8.out.turn
    clear HUN
    go_wp2_with fail
    go_ret
    rw [HN.out]
    exact HL9.out
 ·have h1b:(a3==1)=false:=by rw [beq_eq_false_iff_ne];exact h1
  have HN:Hid (Tr.unlink t q=(0,Tr.unlinked t q)):=by
   have:=HUN.out
   rw [if_neg (fun e=>h1 e.1)] at this
   exact this
  have HL9:Hid (RTurn p (Tr.unlinked t q) (.int .i64 0) (RS p nv ev D) w (.returned (.int .i64 0)) w8):=HL8.out.turn
  clear HUN h1
  go_wp2_with fail
  go_ret
  rw [HN.out]
  exact HL9.out
set_option maxRecDepth 100000 in
theorem rmdir_any (h:RA p nv dv ev D t w) (hG:Tr.Good t) (A:Option Addr) (q:List Bs) (cap:Nat) (hr:RdS w A q) (hc:q.length≤cap) (hl:q.length≤1000000) (hs:∀ s ∈ q,s.length≤1000000) :
    Calls Tryz.prog 12 #[.pointer (some ⟨p,0,none⟩),.slice A q.length cap] w (RTurn p (Tr.rmdir t q).2 (.int .i64 ((Tr.rmdir t q).1:Nat)) (RS p nv ev D) w):=by
 have HS:Hid (∀ x W,Below w.heap.size w W→RTurn p t x (RS p nv ev D) w (.returned x) W):=fun x W hW=>RTurn.stay h hW
 have H1:=Lib.hid (look_any h.in_ hG h.low A q cap hr hl hs)
 obtain ⟨i,n,hin⟩:∃ i n,Tr.look t q=(i,n):=⟨_,_,rfl⟩
 rw [hin] at H1
 have hlf:n=0→Tr.formed q=0∧Tr.lF t 0 q=(i,0):=fun hn=>by
  subst hn
  unfold Tr.look at hin
  by_cases hf:Tr.formed q=0
  ·rw [if_neg (by simp [hf])] at hin
   exact ⟨hf,hin⟩
  ·rw [if_pos hf] at hin
   injection hin with _ h2
   exact absurd h2 hf
 obtain ⟨L,m,hli⟩:∃ L m,Tr.list t i=(L,m):=⟨_,_,rfl⟩
 have hmk:n=0→(m=23∧Tr.kindOf t i≠2∨m=0∧Tr.kindOf t i=2∧L=(Tr.kids t i).map (·.1)):=fun hn=>by
  have hsm:=hG.look_is (p:=q) (by rw [(hlf hn).2])
  rw [(hlf hn).2] at hsm
  unfold Tr.list at hli
  rw [if_neg (by cases hz:Tr.find t i <;> simp_all)] at hli
  by_cases hk:Tr.kindOf t i=2
  ·rw [if_neg (by simp [hk])] at hli
   injection hli with h1 h2
   exact .inr ⟨h2.symm,hk,h1.symm⟩
  ·rw [if_pos hk] at hli
   injection hli with h1 h2
   exact .inl ⟨h2.symm,hk⟩
 have hrm:Tr.rmdir t q=if n≠0 then (n,t) else if Tr.kindOf t i≠2 then (23,t) else if q=[] then (1,t) else if Tr.kids t i≠[] then (24,t) else (0,Tr.remove (Tr.cut t (Tr.place t q).1 (Tr.place t q).2.1) i):=by
  unfold Tr.rmdir
  unfold Tr.look at hin
  by_cases hf:Tr.formed q=0
  ·rw [if_neg (by simp [hf])] at hin
   rw [if_neg (by simp [hf]),hin]
  ·rw [if_pos hf] at hin
   injection hin with h1 h2
   rw [if_pos hf,if_pos (by rw [← h2];exact hf),h2]
 have H3:Hid (∀ W,Below w.heap.size w W→Calls Tryz.prog 61 #[.pointer (some ⟨p,0,none⟩),.int .i64 i] W (LAns L m W)):=fun W hW=>by
  have:=list_any (h.below hW) hG i
  rw [hli] at this
  exact this
 have HGO:Hid (n=0→q≠[]→Tr.kids t i=[]→∃ (d:Int) (x:Bs) (j:Nat),(Tr.place t q).1=d∧(Tr.place t q).2.1=x ∧
     (∀ W,Below w.heap.size w W→Calls Tryz.prog 53 #[.pointer (some ⟨p,0,none⟩),.slice A q.length cap] W fun e w'=>e=.returned (.tuple #[.int .i64 d,.string (strOf x),.int .i64 0])∧Below W.heap.size W w') ∧
     (∀ W,Below w.heap.size w W→Calls Tryz.prog 54 #[.pointer (some ⟨p,0,none⟩),.int .i64 d,.string (strOf x)] W fun e w'=>e=.returned (.int .i64 (j:Nat))∧w'=W) ∧
     (∀ W,Below w.heap.size w W→Calls Tryz.prog 62 #[.pointer (some ⟨p,0,none⟩),.int .i64 (j:Nat)] W fun e w'=>e=.returned (.tuple #[])∧∃ nv2 dv2 ev2 D2,Left p (Tr.cut t d x) (RS p nv ev D) W w' nv2 dv2 ev2 D2) ∧
     (∀ W nv2 dv2 ev2 D2,RA p nv2 dv2 ev2 D2 (Tr.cut t d x) W→Calls Tryz.prog 63 #[.pointer (some ⟨p,0,none⟩),.int .i64 i] W (RTurn p (Tr.remove (Tr.cut t d x) i) (.tuple #[]) (RS p nv2 ev2 D2) W))):=fun hn hqne hkd=>by
  obtain ⟨hf0,hlk⟩:=hlf hn
  obtain ⟨r,x,d,en,_,_,k3,_,k5,k6⟩:=hG.looked hlk hqne
  obtain ⟨j,m1,m2⟩:=rm_name hG k3 k5 h
  have hsm:=hG.look_is (p:=q) (by rw [hlk])
  rw [hlk] at hsm
  obtain ⟨ei,hei⟩:=Option.isSome_iff_exists.1 hsm
  have hnm:ei.names=[]:=by rw [Tr.kids_of hei] at hkd;exact hkd
  have hfc:Tr.find (Tr.cut t d x) i=some (if i=d then { ei with names:=Tr.del ei.names x } else ei):=by
   unfold Tr.cut
   rw [Tr.find_upd (Tr.cut_id x),hei];rfl
  have hnc:(if i=d then { ei with names:=Tr.del ei.names x } else ei:En).names=[]:=by
   split
   ·show Tr.del ei.names x=[]
    rw [hnm];rfl
   ·exact hnm
  have hrc:Tr.Ris (Tr.cut t d x):=Tr.upd_ris hG.ris fun _=>rfl
  have hlc:(Tr.cut t d x).length≤64:=by unfold Tr.cut;rw [Tr.upd_length];exact hG.few
  refine ⟨d,x,j,by rw [k6],by rw [k6],fun W hW=>?_,fun W hW=>?_,m2,fun W nv2 dv2 ev2 D2 hW=>gone_of hrc hlc hfc hnc hW⟩
  ·have:=place_any (h.below hW) hG A q cap (hr.below hW) hc hl
   rw [k6] at this
   exact this
  ·have:=entry_any (h.below hW).in_ d x (by have:=hG.flat_le;omega)
   rw [m1] at this
   exact this
 have HRM:=Lib.hid hrm
 have HMK:=Lib.hid hmk
 have hqb:q=[]∨q≠[]:=Decidable.em _
 have HLF0:Hid (∀ W,Below w.heap.size w W→Left p t (RS p nv ev D) w W nv dv ev D):=fun W hW=>h.left.later hW
 obtain ⟨ql,hql⟩:∃ ql,ql=q.length:=⟨_,rfl⟩
 have HQL:Hid (q=[]↔ql=0):=by rw [hql];exact List.length_eq_zero_iff.symm
 have hqlf:ql≤1000000:=by omega
 rw [← hql] at H1 HGO ⊢
 clear h hG hr hs hin hrm hlf hc hl hli hmk hqb hql
 go_enter Tryz.func12,Tryz.ntmps12
 go_wp2_with fail
 refine H1.out.mono ?_
 rintro e w2 ⟨rfl,hb2⟩
 have HB2:=Lib.hid hb2
 clear hb2 H1
 by_cases hn:n=0
 case neg =>
  have hnb:((n:Int) != 0)=true:=by rw [bne_iff_ne];omega
  have HN:Hid (Tr.rmdir t q=(n,t)):=by
   have:=HRM.out
   rw [if_pos hn] at this
   exact this
  clear hn HRM
  go_wp2_with fail
  go_ret
  rw [HN.out]
  exact HS.out _ _ HB2.out
 subst hn
 rw [if_neg (by simp)] at HRM
 have H3a:=Lib.hid (H3.out _ HB2.out)
 go_wp2_with fail
 refine H3a.out.mono ?_
 rintro e w3 ⟨v3,rfl,hT3⟩
 have HB3:Hid (Below w.heap.size w w3):=HB2.out.trans (hT3.later.mono HB2.out.size)
 obtain ⟨X,c,rfl,_,_⟩:=hT3.form
 clear hT3 H3 H3a
 rcases HMK.out (by first|rfl|trivial) with ⟨rfl,hk⟩|⟨rfl,hk,hL⟩
 ·have HN:Hid (Tr.rmdir t q=(23,t)):=by
   have:=HRM.out
   rw [if_pos hk] at this
   exact this
  clear hk HRM HMK
  go_wp2_with fail
  go_ret
  rw [HN.out]
  exact HS.out _ _ HB3.out
 rw [if_neg (by simp [hk])] at HRM
 by_cases hq0:ql=0
 ·have HN:Hid (Tr.rmdir t q=(1,t)):=by
   have:=HRM.out
   rw [if_pos (HQL.out.2 hq0)] at this
   exact this
  subst hq0
  clear hk HRM HMK hL
  go_wp2_with fail
  go_ret
  rw [HN.out]
  exact HS.out _ _ HB3.out
 have hqne:q≠[]:=fun e=>hq0 (HQL.out.1 e)
 have hqi:((ql:Int)==0)=false:=by rw [beq_eq_false_iff_ne];omega
 rw [if_neg hqne] at HRM
 obtain ⟨ll,hll⟩:∃ ll,ll=L.length:=⟨_,rfl⟩
 rw [← hll]
 by_cases hk0:Tr.kids t i=[]
 case neg =>
  have hpos:(0:Int)<(ll:Int):=by
   rw [hll,hL,List.length_map]
   have:=List.length_pos_iff.2 hk0
   omega
  have HN:Hid (Tr.rmdir t q=(24,t)):=by
   have:=HRM.out
   rw [if_pos hk0] at this
   exact this
  clear hk HRM HMK hL hk0 hq0 hqne hll
  go_wp2_with fail
  go_ret
  rw [HN.out]
  exact HS.out _ _ HB3.out
 have hl0:ll=0:=by rw [hll,hL,hk0];rfl
 subst hl0
 obtain ⟨d,x,j,e1,e2,G1,G2,G3,G4⟩:=HGO.out (by first|rfl|trivial) hqne hk0
 have HN:Hid (Tr.rmdir t q=(0,Tr.remove (Tr.cut t d x) i)):=by
  have:=HRM.out
  rw [if_neg (by simp [hk0]),e1,e2] at this
  exact this
 have G1a:=Lib.hid (G1 w3 HB3.out)
 have G2:=Lib.hid G2
 have G3:=Lib.hid G3
 have G4:=Lib.hid G4
 clear hk HRM HMK hL hk0 hq0 hqne hll G1 HGO e1 e2
 go_wp2_with fail
 refine G1a.out.mono ?_
 rintro e w5 ⟨rfl,hb5⟩
 have HB5:Hid (Below w.heap.size w w5):=HB3.out.trans (hb5.mono HB3.out.size)
 have G2a:=Lib.hid (G2.out w5 HB5.out)
 have G3a:=Lib.hid (G3.out w5 HB5.out)
 clear hb5 G1a G2 G3
 go_wp2_with fail
 refine G2a.out.mono ?_
 rintro e w6 ⟨rfl,rfl⟩
 go_wp2_with fail
 refine G3a.out.mono ?_
 rintro e w7 ⟨rfl,nv2,dv2,ev2,D2,hl7⟩
 have HL7:Hid (Left p (Tr.cut t d x) (RS p nv ev D) w w7 nv2 dv2 ev2 D2):=(HLF0.out w6 HB5.out).then hl7
 have G4a:=Lib.hid (G4.out w7 _ _ _ _ hl7.ra)
 clear hl7 G2a G3a G4
 go_wp2_with fail
 refine G4a.out.mono ?_
 intro e w8 ht8
 obtain ⟨rfl,nv3,dv3,ev3,D3,hl8⟩:=ht8.left
 have HL9:Hid (RTurn p (Tr.remove (Tr.cut t d x) i) (.int .i64 0) (RS p nv ev D) w (.returned (.int .i64 0)) w8):=(HL7.out.then hl8).turn
 clear hl8 ht8
 go_wp2_with fail
 go_ret
 rw [HN.out]
 exact HL9.out
end Rf
end Go.Proofs.YtjoedamiilgajaaGreat
namespace Go.Proofs.YtjoedamiilgajaaGreat
open Go.RowKit Rc
open Tr (Nm En T)
namespace Rf
variable {p:Nat} {nv dv ev:Value} {D:Nat→Prop} {t t':T} {w w1 w2:World}
theorem fold_bound (t:T) (n b:Nat) (h:∀ i,Tr.high t n i≤n):∀ (l:List Nm) (m:Nat),m≤n+1→l.foldl (fun m k=>max m (1+Tr.high t n k.2)) m≤n+1
 | [],_,hm=>hm
 | k :: l,m,hm=>by
   rw [List.foldl_cons]
   exact fold_bound t n b h l _ (by have:=h k.2;omega)
theorem high_le (t:T):∀ (n:Nat) (i:Int),Tr.high t n i≤n
 | 0,_=>Nat.le_refl _
 | n+1,i=>by
   rw [Tr.high]
   exact fold_bound t n 0 (high_le t n) _ 0 (by omega)
theorem high_file (hG:Tr.Good t) (n:Nat) {i:Int} (h:Tr.kindOf t i≠2):Tr.high t n i=0:=by
 cases n with
 | zero=>rfl
 | succ n=>rw [Tr.high,hG.file_kids h];rfl
set_option maxRecDepth 100000 in
theorem deep_step (h:RA p nv dv ev D t w) (hG:Tr.Good t) (n:Nat) (hn:n≤64) (i:Int) (hrec:∀ k ∈ Tr.kids t i,Tr.kindOf t k.2=2→∀ W,Below w.heap.size w W→Calls Tryz.prog 129 #[.pointer (some ⟨p,0,none⟩),.int .i64 k.2] W fun e w'=>e=.returned (.int .i64 (Tr.high t n k.2:Nat))∧Below W.heap.size W w') :
    Calls Tryz.prog 129 #[.pointer (some ⟨p,0,none⟩),.int .i64 i] w fun e w'=>e=.returned (.int .i64 (Tr.high t (n+1) i:Nat))∧Below w.heap.size w w':=by
 have hhigh:Tr.high t (n+1) i=(((Tr.flat t).filter fun y=>y.1==i).map (·.2)).foldl (fun m k=>max m (1+Tr.high t n k.2)) 0:=by
  rw [Tr.high,flat_kids hG.ris i]
 rw [hhigh]
 have HND:Hid (∀ W k,Below w.heap.size w W→Calls Tryz.prog 35 #[.pointer (some ⟨p,0,none⟩),.int .i64 k] W fun e w'=>e=.returned (.tuple #[(Tr.node t k).1.val,.bool (Tr.node t k).2])∧Below W.heap.size W w'):=fun W k hW=>node_any (h.below hW).in_ (h.below hW).low k (by have:=hG.few;omega)
 have HFH:Hid (∀ k,Tr.kindOf t k≠2→Tr.high t n k=0):=fun k hk=>high_file hG n hk
 have HHL:Hid (∀ k,Tr.high t n k≤n):=high_le t n
 have HKD:Hid (∀ y ∈ Tr.flat t,y.1=i→y.2 ∈ Tr.kids t i):=fun y hy hyi=>by
  rw [← flat_kids hG.ris i]
  exact List.mem_map.2 ⟨y,List.mem_filter.2 ⟨hy,by simpa using hyi⟩,rfl⟩
 have hfew:=hG.flat_le
 have HRC:=Lib.hid hrec
 obtain ⟨A,c,hev,_,hA⟩:=Tm.oF h.in_.ents
 have HC2:Hid (∀ W,Below w.heap.size w W→W.cell? ⟨p,2,none⟩=some ev):=fun W hW=>(h.below hW).in_.box.cell 2
 obtain ⟨l,hl⟩:∃ l,l=Tr.flat t:=⟨_,rfl⟩
 rw [← hl] at hev hA hfew HKD ⊢
 have HA:=Lib.hid hA
 subst hev
 clear h hG hrec hA hl hhigh
 go_enter Tryz.func129,Tryz.ntmps129
 go_wp2_with fail
 go_loopw [5,6,7,8,9] (fun t5 t6 t7 t8 t9 wr=>∃ (j m:Nat) (v7 v8 v9:Value),t5=.int .i64 m∧t6=.int .i64 j∧t7=v7∧t8=v8∧t9=v9∧j≤l.length∧m≤65∧Hid (m=(((l.take j).filter fun y=>y.1==i).map (·.2)).foldl (fun m k=>max m (1+Tr.high t n k.2)) 0)∧Hid (Below w.heap.size w wr)) (fun _ t6 _ _ _ _=>l.length-(match t6 with|.int _ k=>k.toNat|_=>0))
 case atStart=>exact ⟨0,0,_,_,_,rfl,rfl,rfl,rfl,rfl,Nat.zero_le _,by omega,rfl,Below.refl _ _⟩
 case round =>
  obtain ⟨j,m,v7,v8,v9,rfl,rfl,rfl,rfl,rfl,hj,hm65,HM,HB⟩:=hrel
  have cE:=HC2.out _ HB.out
  by_cases hk:j<l.length
  ·obtain ⟨y,hy⟩:∃ y,l[j]?=some y:=⟨_,List.getElem?_eq_getElem hk⟩
   obtain ⟨q,rfl,_,_,hql,hcell⟩:=HA.out (by omega)
   have HD2:Hid (∀ W,Below w.heap.size w W→W.cell? ⟨q,j*3+2,none⟩=some (.int .i64 y.2.2)):=fun W hW=>(hW.cell (p:=⟨q,j*3+2,none⟩) hql).trans (hcell _ _ (fl_get hy 2 (by omega)))
   have d0:wr.cell? ⟨q,j*3,none⟩=some (.int .i64 y.1):=(HB.out.cell (p:=⟨q,j*3,none⟩) hql).trans (hcell _ _ (fl_get hy 0 (by omega)))
   have d2:=HD2.out _ HB.out
   have hlt2:(j:Int)<(l.length:Int):=by omega
   have HTK:Hid (((l.take (j+1)).filter fun y=>y.1==i).map (·.2)=((l.take j).filter fun y=>y.1==i).map (·.2)++if y.1=i then [y.2] else []):=by
    have htk:l.take (j+1)=l.take j++[y]:=by
     rw [List.take_succ_eq_append_getElem hk]
     rw [List.getElem?_eq_getElem hk] at hy
     injection hy with hy
     rw [hy]
    show _=_
    rw [htk,List.filter_append,List.map_append]
    congr 1
    by_cases h:y.1=i
    ·rw [if_pos h,List.filter_cons,if_pos (by simpa using h)];rfl
    ·rw [if_neg h,List.filter_cons,if_neg (by simpa using h)];rfl
   have hym:y ∈ l:=List.mem_of_getElem? hy
   have HYM:=Lib.hid hym
   have HKY:=Lib.hid (fun e=>HKD.out y hym e)
   obtain ⟨y1,y2,y3⟩:=y
   simp only at d0 d2 HTK HKY HD2
   clear hy hcell hql hym
   by_cases h1:y1=i
   case neg =>
    have hb:(y1==i)=false:=by rw [beq_eq_false_iff_ne];exact h1
    have HNX:Hid (m=(((l.take (j+1)).filter fun y=>y.1==i).map (·.2)).foldl (fun m k=>max m (1+Tr.high t n k.2)) 0):=by
     show _=_
     rw [HTK.out,if_neg h1,List.append_nil];exact HM.out
    clear HTK h1
    go_wp2_with fail
    go_roundw
    case rel=>exact ⟨j+1,m,_,_,_,rfl,by go_num,rfl,rfl,rfl,by omega,hm65,HNX.out,HB.out⟩
    case measure=>simp;omega
   subst h1
   have HNX:Hid (max m (1+Tr.high t n y3)=(((l.take (j+1)).filter fun y=>y.1==y1).map (·.2)).foldl (fun m k=>max m (1+Tr.high t n k.2)) 0):=by
    show _=_
    rw [HTK.out,if_pos rfl,List.foldl_append,← show m=_ from HM.out];rfl
   have HND1:=Lib.hid (HND.out wr y3 HB.out)
   have e0:Tr.node t y3=(Tr.ndOf t y3,(Tr.find t y3).isSome):=rfl
   rw [e0] at HND1
   have HKI:Hid (Tr.kindOf t y3=(Tr.ndOf t y3).kind):=rfl
   obtain ⟨fo,hfo⟩:∃ fo,fo=(Tr.find t y3).isSome:=⟨_,rfl⟩
   rw [← hfo] at HND1
   obtain ⟨⟨a1,a2,a3,a4,a5,a6⟩,hnd⟩:∃ nd,nd=Tr.ndOf t y3:=⟨_,rfl⟩
   rw [← hnd] at HND1 HKI
   unfold Nd.val at HND1
   simp only at HND1 HKI
   have hh65:=HHL.out y3
   have HRC1:Hid (a2=2→∀ W,Below w.heap.size w W→Calls Tryz.prog 129 #[.pointer (some ⟨p,0,none⟩),.int .i64 y3] W fun e w'=>e=.returned (.int .i64 (Tr.high t n y3:Nat))∧Below W.heap.size W w'):=fun ha W hW=>HRC.out (y2,y3) (HKY.out rfl) (by rw [show Tr.kindOf t y3=a2 from HKI.out];exact ha) W hW
   have HF0:Hid (a2≠2→Tr.high t n y3=0):=fun ha=>HFH.out y3 (by rw [show Tr.kindOf t y3=a2 from HKI.out];exact ha)
   obtain ⟨x,hx⟩:∃ x,x=Tr.high t n y3:=⟨_,rfl⟩
   rw [← hx] at HNX HRC1 HF0 hh65
   clear HTK e0 hfo hnd HKI hx
   go_wp2_with fail
   refine HND1.out.mono ?_
   rintro e w3 ⟨rfl,hb3⟩
   have HB3:Hid (Below w.heap.size w w3):=HB.out.trans (hb3.mono HB.out.size)
   obtain ⟨wb,hwb⟩:∃ wb,wb=w3.alloc (.cells #[.int .i64 a1,.int .i64 a2,.int .i64 a3,.int .i64 a4,.int .u64 (a5:Nat),.bool a6] 59):=⟨_,rfl⟩
   have HB4:Hid (Below w.heap.size w wb):=by show Below _ _ _;rw [hwb];exact HB3.out.alloc HB3.out.size _
   have HBK:Hid (Blk wb w3.heap.size 59 [.int .i64 a1,.int .i64 a2,.int .i64 a3,.int .i64 a4,.int .u64 (a5:Nat),.bool a6]):=by show Blk _ _ _ _;rw [hwb];exact Blk.new w3 _ _
   clear hb3 HND1
   go_upto_region 8 with (fail)
   rw [← hwb]
   clear hwb d0 d2 cE
   have c1:wb.cell? ⟨w3.heap.size,1,none⟩=some (.int .i64 a2):=HBK.out.cell 1
   have cE:=HC2.out _ HB4.out
   have d2:=HD2.out _ HB4.out
   by_cases h2:a2=2
   ·have HRC2:=Lib.hid (HRC1.out h2 wb HB4.out)
    subst h2
    have hw1:IntKind.i64.wrap (1+(x:Int))=((1+x:Nat):Int):=by rw [IntKind.wrap_i64];omega
    obtain ⟨x1,hx1⟩:∃ x1,x1=1+x:=⟨_,rfl⟩
    rw [← hx1] at hw1 HNX
    have hx165:x1≤65:=by omega
    clear hx1
    go_wp2_with fail
    refine HRC2.out.mono ?_
    rintro e w5 ⟨rfl,hb5⟩
    have HB5:Hid (Below w.heap.size w w5):=HB4.out.trans (hb5.mono HB4.out.size)
    clear hb5 HRC2 c1
    by_cases hgt:(m:Int)<(x1:Int)
    ·have HN2:Hid (x1=(((l.take (j+1)).filter fun y=>y.1==y1).map (·.2)).foldl (fun m k=>max m (1+Tr.high t n k.2)) 0):=by
      have:=HNX.out
      rw [Nat.max_eq_right (by omega)] at this
      exact this
     clear HNX
     go_wp2_with fail
     go_roundw
     case rel=>exact ⟨j+1,x1,_,_,_,rfl,by go_num,rfl,rfl,rfl,by omega,hx165,HN2.out,HB5.out⟩
     case measure=>simp;omega
    ·have HN2:Hid (m=(((l.take (j+1)).filter fun y=>y.1==y1).map (·.2)).foldl (fun m k=>max m (1+Tr.high t n k.2)) 0):=by
      have:=HNX.out
      rw [Nat.max_eq_left (by omega)] at this
      exact this
     clear HNX
     go_wp2_with fail
     go_roundw
     case rel=>exact ⟨j+1,m,_,_,_,rfl,by go_num,rfl,rfl,rfl,by omega,hm65,HN2.out,HB5.out⟩
     case measure=>simp;omega
   ·have h2b:(a2==2)=false:=by rw [beq_eq_false_iff_ne];exact h2
    have hx0:=HF0.out h2
    subst hx0
    clear h2
    by_cases hgt:(m:Int)<1
    ·have HN2:Hid (1=(((l.take (j+1)).filter fun y=>y.1==y1).map (·.2)).foldl (fun m k=>max m (1+Tr.high t n k.2)) 0):=by
      have:=HNX.out
      rw [Nat.max_eq_right (by omega)] at this
      exact this
     clear HNX
     go_wp2_with fail
     go_roundw
     case rel=>exact ⟨j+1,1,_,_,_,rfl,by go_num,rfl,rfl,rfl,by omega,by omega,HN2.out,HB4.out⟩
     case measure=>simp;omega
    ·have HN2:Hid (m=(((l.take (j+1)).filter fun y=>y.1==y1).map (·.2)).foldl (fun m k=>max m (1+Tr.high t n k.2)) 0):=by
      have:=HNX.out
      rw [Nat.max_eq_left (by omega)] at this
      exact this
     clear HNX
     go_wp2_with fail
     go_roundw
     case rel=>exact ⟨j+1,m,_,_,_,rfl,by go_num,rfl,rfl,rfl,by omega,hm65,HN2.out,HB4.out⟩
     case measure=>simp;omega
  ·obtain rfl:j=l.length:=by omega
   have HEND:Hid (m=((l.filter fun y=>y.1==i).map (·.2)).foldl (fun m k=>max m (1+Tr.high t n k.2)) 0):=by
    have:=HM.out
    rw [List.take_length] at this
    exact this
   go_wp2_with fail
   go_ret
   exact ⟨by rw [← show m=_ from HEND.out];rfl,HB.out⟩
theorem deep_any (h:RA p nv dv ev D t w) (hG:Tr.Good t) (i:Int) :
    Calls Tryz.prog 129 #[.pointer (some ⟨p,0,none⟩),.int .i64 i] w fun e w'=>e=.returned (.int .i64 (Tr.high t 64 i:Nat))∧Below w.heap.size w w':=by
 obtain ⟨dep,hd0,hd⟩:=hG.deep
 have key:∀ (n:Nat),n≤63→∀ (i:Int),(Tr.kindOf t i=2→9≤dep i+n)→∀ W,Below w.heap.size w W→Calls Tryz.prog 129 #[.pointer (some ⟨p,0,none⟩),.int .i64 i] W fun e w'=>e=.returned (.int .i64 (Tr.high t (n+1) i:Nat))∧Below W.heap.size W w':=by
  intro n
  induction n with
  | zero =>
    intro _ i hi W hW
    refine deep_step (h.below hW) hG 0 (by omega) i fun k hk hkd=>?_
    obtain ⟨e,he,hke⟩:=Tr.kids_mem hk
    have h1:=hd e (Tr.find_some he).1 k hke
    rw [(Tr.find_some he).2] at h1
    have h2:Tr.kindOf t i=2:=by
     by_cases hki:Tr.kindOf t i=2
     ·exact hki
     ·rw [hG.file_kids hki] at hk;cases hk
    have:=hi h2
    omega
  | succ n ih =>
    intro hn i hi W hW
    refine deep_step (h.below hW) hG (n+1) (by omega) i fun k hk hkd W2 hW2=>ih (by omega) k.2 (fun _=>?_) W2 (hW.trans (hW2.mono hW.size))
    obtain ⟨e,he,hke⟩:=Tr.kids_mem hk
    have h1:=hd e (Tr.find_some he).1 k hke
    rw [(Tr.find_some he).2] at h1
    have h2:Tr.kindOf t i=2:=by
     by_cases hki:Tr.kindOf t i=2
     ·exact hki
     ·rw [hG.file_kids hki] at hk;cases hk
    have h3:=hi h2
    have h4:=h1.2 hkd
    omega
 exact key 63 (Nat.le_refl _) i (fun _=>by omega) w (Below.refl _ _)
end Rf
end Go.Proofs.YtjoedamiilgajaaGreat
namespace Go.Proofs.YtjoedamiilgajaaGreat
open Go.RowKit Rc
open Tr (Nm En T)
namespace Rf
variable {p:Nat} {nv dv ev nv2 dv2 ev2:Value} {D D2:Nat→Prop} {t t':T} {w w1 w2:World}
set_option maxRecDepth 100000 in
theorem new_any (w:World):Calls Tryz.prog 8 #[] w fun e w'=>∃ p nv dv ev D,e=.returned (.pointer (some ⟨p,0,none⟩))∧RA p nv dv ev D Tr.new w'∧Below w.heap.size w w'∧∀ b,RS p nv ev D b→w.heap.size≤b:=by
 obtain ⟨wa,hwa⟩:∃ wa,wa=w.alloc (.cells #[.int .i64 0,.int .i64 2,.int .i64 1,.int .i64 0,.int .u64 0,.bool true] 59):=⟨_,rfl⟩
 obtain ⟨wb,hwb⟩:∃ wb,wb=wa.alloc (.cells #[.slice none 0 0] 39):=⟨_,rfl⟩
 have hsa:wa.heap.size=w.heap.size+1:=by rw [hwa,World.size_alloc]
 have hsb:wb.heap.size=w.heap.size+1+1:=by rw [hwb,World.size_alloc,hsa]
 obtain ⟨wc,hwc⟩:∃ wc,wc=wb.alloc (.cells #[.slice (some ⟨w.heap.size,0,none⟩) 1 1,.slice (some ⟨w.heap.size+1,0,none⟩) 1 1,.slice none 0 0] 84):=⟨_,rfl⟩
 have hba:Below w.heap.size w wa:=by rw [hwa];exact bN w _
 have hbb:Below wa.heap.size wa wb:=by rw [hwb];exact bN wa _
 have hbc:Below wb.heap.size wb wc:=by rw [hwc];exact bN wb _
 have ka:Blk wa w.heap.size 59 [.int .i64 0,.int .i64 2,.int .i64 1,.int .i64 0,.int .u64 0,.bool true]:=by rw [hwa];exact Blk.new w _ _
 have kb:Blk wb (w.heap.size+1) 39 [.slice none 0 0]:=by rw [← hsa,hwb];exact Blk.new wa _ _
 have kc:Blk wc (w.heap.size+1+1) 84 [.slice (some ⟨w.heap.size,0,none⟩) 1 1,.slice (some ⟨w.heap.size+1,0,none⟩) 1 1,.slice none 0 0]:=by rw [← hsb,hwc];exact Blk.new wb _ _
 have ka2:=(ka.below hbb ka.lt).below hbc (by have:=ka.lt;omega)
 have kb2:=kb.below hbc kb.lt
 have own1:∀ {g:Nat} {e:TypeId} {cs:List Value} {k:Nat},Blk wc g e cs→cs.length=k→wc.ownsRow 0 e k (.slice (some ⟨g,0,none⟩) 1 1) 1 cs:=fun {g e cs k} hb hk=>⟨by omega,.inr ⟨g,1,cs.toArray,rfl,Nat.zero_le _,hb,Nat.le_refl _,by unfold maxLen;omega,by simp [hk],by simp [← hk]⟩⟩
 have HRA:Hid (∃ nv dv ev D,RA (w.heap.size+1+1) nv dv ev D Tr.new wc∧Below w.heap.size w wc∧∀ b,RS (w.heap.size+1+1) nv ev D b→w.heap.size≤b):=by
  refine ⟨_,_,_,fun b=>b=w.heap.size+1,⟨⟨kc,own1 ka2 rfl,⟨rfl,.inl ⟨rfl,rfl⟩⟩,⟨[.slice none 0 0],own1 kb2 rfl,fun b hb=>?_,fun j y hj=>?_⟩⟩,fun b hb=>?_⟩,hba.trans ((hbb.mono hba.size).trans (hbc.mono (by omega))),fun b hb=>?_⟩
  ·simp [Value.ownBlock] at hb;exact hb.symm
  ·have hj0:j=0:=by
    have:=(List.getElem?_eq_some_iff.1 hj).1
    have h1:(Tr.new.map (·.data)).length=1:=rfl
    omega
   subst hj0
   obtain rfl:([]:Bs)=y:=by injection hj
   exact ⟨none,0,rfl,Nat.le_refl _,.inl ⟨Rd.nil _ _,fun b hb=>by cases hb⟩⟩
  ·subst hb
   refine ⟨by have:=kc.lt;omega,by omega,?_,?_⟩ <;> simp [Value.ownBlock]
  ·rcases hb with rfl|hb|hb|rfl
   ·omega
   ·simp [Value.ownBlock] at hb;omega
   ·simp [Value.ownBlock] at hb
   ·omega
 clear hba hbb hbc ka kb kc ka2 kb2 own1
 go_enter Tryz.func8,Tryz.ntmps8
 go_wp2_with fail
 go_ret
 obtain ⟨nv,dv,ev,D,k1,k2,k3⟩:=HRA.out
 subst hwc hwb hwa
 exact ⟨_,nv,dv,ev,D,rfl,k1,k2,k3⟩
theorem RA.datacell (h:RA p nv dv ev D t w) {j:Nat} {e:En} (he:t[j]?=some e):∃ g X c,(∃ cd,dv=.slice (some ⟨g,0,none⟩) t.length cd)∧w.cell? ⟨g,j,none⟩=some (.slice X e.data.length c)∧e.data.length≤c∧Rd w X e.data∧∀ b,X.map (·.block)=some b→D b∧dv.ownBlock≠some b:=by
 obtain ⟨xs,h1,h2,h3⟩:=h.in_.data
 rw [List.length_map] at h1
 obtain ⟨A,cd,hv,_,hA⟩:=Tm.oF h1
 have hjl:j<t.length:=(List.getElem?_eq_some_iff.1 he).1
 obtain ⟨g,rfl,_,_,_,hcell⟩:=hA (by omega)
 obtain ⟨X,c,k1,k2,k3⟩:=h3 j e.data (by rw [List.getElem?_map,he];rfl)
 rcases k3 with k3|k3
 ·exact ⟨g,X,c,⟨cd,hv⟩,hcell j _ k1,k2,k3.1,k3.2⟩
 ·exact k3.elim
def RdAns (l:Bs) (n:Nat) (w:World) (e:Ending) (w':World):Prop:=∃ X c,e=.returned (.tuple #[.slice X l.length c,.int .i64 (n:Nat)])∧l.length≤c∧Rd w X l∧w'=w
set_option maxRecDepth 100000 in
theorem read_any (h:RA p nv dv ev D t w) (hG:Tr.Good t) (i a m:Int) (ha:-9223372036854775808≤a∧a≤9223372036854775807) (hm:-9223372036854775808≤m∧m≤9223372036854775807) :
    Calls Tryz.prog 25 #[.pointer (some ⟨p,0,none⟩),.int .i64 i,.int .i64 a,.int .i64 m] w (RdAns (Tr.read t i a m).1 (Tr.read t i a m).2 w):=by
 have HF:=Lib.hid (file_any h.in_ i (by have:=hG.few;omega))
 have HNIL:Hid (∀ n:Nat,RdAns [] n w (.returned (.tuple #[.slice none 0 0,.int .i64 (n:Nat)])) w):=fun n=>⟨none,0,rfl,Nat.le_refl _,Rd.nil _ _,rfl⟩
 by_cases h0:Tr.file t i=0
 case neg =>
  have HN:Hid (Tr.read t i a m=([],Tr.file t i)):=by
   show _=_
   unfold Tr.read
   rw [if_pos h0]
  rw [if_neg h0] at HF
  obtain ⟨k,hk⟩:∃ k,k=Tr.file t i:=⟨_,rfl⟩
  rw [← hk] at HF h0 HN
  have hki:((k:Int) != 0)=true:=by rw [bne_iff_ne];omega
  clear h hG h0 hk
  go_enter Tryz.func25,Tryz.ntmps25
  go_wp2_with fail
  refine HF.out.mono ?_
  rintro e1 w1 ⟨rfl,rfl⟩
  go_wp2_with fail
  go_ret2
  rw [HN.out]
  exact HNIL.out k
 rw [if_pos h0,h0] at HF
 obtain ⟨e,j,h1,h2,h3,h4,h5,h6⟩:=file_at h0
 rw [h3] at HF
 have hread:Tr.read t i a m=if a<0∨m<0 then ([],1) else ((e.data.drop a.toNat).take m.toNat,0):=by
  unfold Tr.read
  rw [if_neg (by rw [h0];simp),Tr.dataOf_of h1]
 have HRE:=Lib.hid hread
 obtain ⟨g,X,c,⟨cd,hdv⟩,k1,k2,k3,_⟩:=h.datacell h2
 have cp1:w.cell? ⟨p,1,none⟩=some dv:=h.in_.box.cell 1
 subst hdv
 have hsz:e.data.length≤4096:=by
  have k:=(hG.each e (Tr.find_some h1).1)
  have:=k.nd.2.2.2.2.2.1
  have:=k.size
  omega
 obtain ⟨l,hl⟩:∃ l,l=e.data:=⟨_,rfl⟩
 rw [← hl] at k1 k2 k3 hsz HRE
 have HK2:=Lib.hid k2
 have HRD:=Lib.hid k3
 have hjl:(j:Int)<(t.length:Int):=by omega
 clear h hG h0 h1 h2 h3 h4 h5 h6 hread hl k2 k3
 by_cases ha0:a<0
 ·have HN:Hid (Tr.read t i a m=([],1)):=by
   have:=HRE.out
   rw [if_pos (.inl ha0)] at this
   exact this
  go_enter Tryz.func25,Tryz.ntmps25
  go_wp2_with fail
  refine HF.out.mono ?_
  rintro e1 w1 ⟨rfl,rfl⟩
  go_wp2_with fail
  go_ret2
  rw [HN.out]
  exact HNIL.out 1
 by_cases hm0:m<0
 ·have HN:Hid (Tr.read t i a m=([],1)):=by
   have:=HRE.out
   rw [if_pos (.inr hm0)] at this
   exact this
  go_enter Tryz.func25,Tryz.ntmps25
  go_wp2_with fail
  refine HF.out.mono ?_
  rintro e1 w1 ⟨rfl,rfl⟩
  go_wp2_with fail
  go_ret2
  rw [HN.out]
  exact HNIL.out 1
 obtain ⟨an,rfl⟩:∃ an:Nat,a=(an:Int):=⟨a.toNat,by omega⟩
 obtain ⟨mn,rfl⟩:∃ mn:Nat,m=(mn:Int):=⟨m.toNat,by omega⟩
 have HN:Hid (Tr.read t i (an:Int) (mn:Int)=((l.drop an).take mn,0)):=by
  have:=HRE.out
  rw [if_neg (by omega)] at this
  exact this
 clear HRE
 by_cases hal:l.length≤an
 ·have hali:(l.length:Int)≤(an:Int):=by omega
  have HN2:Hid (Tr.read t i (an:Int) (mn:Int)=([],0)):=by
   have:=HN.out
   rw [List.drop_eq_nil_of_le hal,List.take_nil] at this
   exact this
  clear HN hal
  go_enter Tryz.func25,Tryz.ntmps25
  go_wp2_with fail
  refine HF.out.mono ?_
  rintro e1 w1 ⟨rfl,rfl⟩
  go_wp2_with fail
  go_ret2
  rw [HN2.out]
  exact HNIL.out 0
 have hali:¬ (l.length:Int)≤(an:Int):=by omega
 obtain ⟨rs,hrs⟩:∃ rs,rs=l.length-an:=⟨_,rfl⟩
 have hw1:IntKind.i64.wrap ((l.length:Int)-(an:Int))=(rs:Int):=by rw [IntKind.wrap_i64];omega
 have key:∀ k,(l.drop an).take mn=(l.drop an).take k→an+k≤l.length→∃ (hi:Nat) (X2:Option Addr) (n3 c3:Nat),IntKind.i64.wrap ((an:Int)+(k:Int))=(hi:Int)∧(∀ W,(Instr.sliceAt 39 (.slice X l.length c) (some (.int .i64 (an:Nat))) (some (.int .i64 (hi:Nat))) none).run Tryz.prog W=.ok (.slice X2 n3 c3) W)∧Hid (RdAns ((l.drop an).take mn) 0 w (.returned (.tuple #[.slice X2 n3 c3,.int .i64 0])) w):=fun k hks hkl=>by
  obtain ⟨X2,r,c3,hrun,hrc,hrd,_,htk,_,hlen⟩:=part_lh X l c an (an+k) (by omega) hkl HK2.out
  refine ⟨an+k,X2,r.length,c3,by rw [IntKind.wrap_i64];omega,hrun.out,?_⟩
  have hr:(l.drop an).take k=r:=by
   have h1:=congrArg (List.drop an) htk.out
   have e9:(l.take an).drop an=[]:=List.drop_eq_nil_of_le (by rw [List.length_take];omega)
   rw [List.drop_append_of_le_length (by rw [List.length_take];omega),e9,List.nil_append,List.drop_take] at h1
   rw [← h1];congr 1;omega
  rw [hks,hr]
  exact ⟨X2,c3,rfl,hrc,hrd.out _ HRD.out,rfl⟩
 by_cases h9:rs<mn
 ·have h9i:(rs:Int)<(mn:Int):=by omega
  obtain ⟨hi,X2,n3,c3,hw2,hrun,HEND⟩:=key rs (by rw [List.take_of_length_le (by rw [List.length_drop];omega),List.take_of_length_le (by rw [List.length_drop];omega)]) (by omega)
  clear key h9 hal hrs
  go_enter Tryz.func25,Tryz.ntmps25
  go_wp2_with fail
  refine HF.out.mono ?_
  rintro e1 w1 ⟨rfl,rfl⟩
  go_wp2_with fail
  go_ret2
  rw [HN.out]
  exact HEND.out
 ·have h9i:¬ (rs:Int)<(mn:Int):=by omega
  obtain ⟨hi,X2,n3,c3,hw2,hrun,HEND⟩:=key mn rfl (by omega)
  clear key h9 hal hrs
  go_enter Tryz.func25,Tryz.ntmps25
  go_wp2_with fail
  refine HF.out.mono ?_
  rintro e1 w1 ⟨rfl,rfl⟩
  go_wp2_with fail
  go_ret2
  rw [HN.out]
  exact HEND.out
/-! Drop: the names of a node, struck from the last one on. -/
def part (k:Int) (l:List Nm) (m:Nat):List Nm:=l.take m++(l.drop m).filter fun n=>!(n.2==k)
def partT (k:Int):T→Nat→T
 | [],_=>[]
 | e :: t,m=>{ e with names:=part k e.names m } :: partT k t (m-e.names.length)
def partF (k:Int) (l:List Ent) (m:Nat):List Ent:=l.take m++(l.drop m).filter fun n=>!(n.2.2==k)
theorem partT_maps (k:Int):∀ (t:T) (m:Nat),(partT k t m).map (·.nd)=t.map (·.nd)∧(partT k t m).map (·.data)=t.map (·.data)
 | [],_=>⟨rfl,rfl⟩
 | e :: t,m=>⟨by rw [partT,List.map_cons,List.map_cons,(partT_maps k t _).1],by rw [partT,List.map_cons,List.map_cons,(partT_maps k t _).2]⟩
theorem partT_flat (k:Int):∀ (t:T) (m:Nat),Tr.flat (partT k t m)=partF k (Tr.flat t) m
 | [],m=>by simp [partT,partF,Tr.flat]
 | e :: t,m=>by
   have e1:Tr.flat (e :: t)=e.names.map (fun n=>(e.nd.id,n))++Tr.flat t:=rfl
   have e2:Tr.flat (partT k (e :: t) m)=(part k e.names m).map (fun n=>(e.nd.id,n))++Tr.flat (partT k t (m-e.names.length)):=rfl
   rw [e2,e1,partT_flat k t]
   unfold partF part
   rw [List.take_append,List.drop_append,List.length_map,List.filter_append,List.map_append,← List.map_take,← List.map_drop,List.filter_map]
   have e3:((fun n:Ent=>!(n.2.2==k)) ∘ fun n:Nm=>(e.nd.id,n))=fun n:Nm=>!(n.2==k):=rfl
   rw [e3]
   by_cases h:m≤e.names.length
   ·have h0:m-e.names.length=0:=by omega
    rw [h0]
    simp
   ·rw [List.drop_eq_nil_of_le (show e.names.length≤m by omega)]
    simp
theorem partT_end (k:Int):∀ (t:T) (m:Nat),(Tr.flat t).length≤m→partT k t m=t
 | [],_,_=>rfl
 | e :: t,m,h=>by
   have e1:Tr.flat (e :: t)=e.names.map (fun n=>(e.nd.id,n))++Tr.flat t:=rfl
   rw [e1,List.length_append,List.length_map] at h
   rw [partT,partT_end k t _ (by omega)]
   have:part k e.names m=e.names:=by
    unfold part
    rw [List.take_of_length_le (by omega),List.drop_eq_nil_of_le (by omega)];simp
   rw [this]
theorem partT_zero (k:Int):∀ t:T,partT k t 0=t.map fun e=>{ e with names:=Tr.strike e.names k }
 | []=>rfl
 | e :: t=>by
   rw [partT,Nat.zero_sub,partT_zero k t,List.map_cons]
   have:part k e.names 0=Tr.strike e.names k:=by unfold part Tr.strike;simp
   rw [this]
theorem partF_step (k:Int) (l:List Ent) {i:Nat} {y:Ent} (h:l[i]?=some y):partF k l i=if y.2.2=k then (partF k l (i+1)).take i++(partF k l (i+1)).drop (i+1) else partF k l (i+1):=by
 obtain ⟨hlt,hje⟩:=List.getElem?_eq_some_iff.1 h
 unfold partF
 have hd:l.drop i=y :: l.drop (i+1):=by rw [List.drop_eq_getElem_cons hlt,hje]
 have ht:l.take (i+1)=l.take i++[y]:=by rw [List.take_succ_eq_append_getElem hlt,hje]
 rw [hd,List.filter_cons]
 by_cases hy:y.2.2=k
 ·rw [if_pos hy,if_neg (by simpa using hy)]
  have hl1:(l.take (i+1)).length=i+1:=by rw [List.length_take];omega
  have e1:(l.take (i+1)++(l.drop (i+1)).filter fun n=>!(n.2.2==k)).take i=l.take i:=by
   rw [List.take_append_of_le_length (by omega),List.take_take]
   congr 1;omega
  have e2:(l.take (i+1)++(l.drop (i+1)).filter fun n=>!(n.2.2==k)).drop (i+1)=(l.drop (i+1)).filter fun n=>!(n.2.2==k):=by
   exact List.drop_left' hl1
  rw [e1,e2]
 ·rw [if_neg hy,if_pos (by simpa using hy),ht,List.append_assoc];rfl
theorem RA.same (h:RA p nv dv ev D t w) (hf:Tr.flat t'=Tr.flat t) (hn:t'.map (·.nd)=t.map (·.nd)) (hd:t'.map (·.data)=t.map (·.data)):RA p nv dv ev D t' w:=by
 obtain ⟨hc,hl⟩:=nd_cells hn
 exact ⟨⟨h.in_.box,by rw [hl,hc];exact h.in_.nodes,by rw [hf];exact h.in_.ents,by rw [hd];exact h.in_.data⟩,h.apart⟩
theorem RA.entcell (h:RA p nv dv ev D t w) {j:Nat} {y:Ent} (hy:(Tr.flat t)[j]?=some y):∃ g c,ev=.slice (some ⟨g,0,none⟩) (Tr.flat t).length c∧w.cell? ⟨g,j*3+2,none⟩=some (.int .i64 y.2.2):=by
 obtain ⟨A,c,hv,_,hA⟩:=Tm.oF h.in_.ents
 have hjl:j<(Tr.flat t).length:=(List.getElem?_eq_some_iff.1 hy).1
 obtain ⟨g,rfl,_,_,_,hcell⟩:=hA (by omega)
 exact ⟨g,c,hv,hcell _ _ (fl_get hy 2 (by omega))⟩
set_option maxRecDepth 100000 in
theorem drop_any (h:RA p nv dv ev D t w) (hG:Tr.Good t) (i:Int) :
    Calls Tryz.prog 27 #[.pointer (some ⟨p,0,none⟩),.int .i64 i] w (RTurn p (Tr.drop t i).2 (.int .i64 ((Tr.drop t i).1:Nat)) (RS p nv ev D) w):=by
 have HF:=Lib.hid (file_any h.in_ i (by have:=hG.few;omega))
 have HS:Hid (∀ x,RTurn p t x (RS p nv ev D) w (.returned x) w):=fun x=>RTurn.stay h (Below.refl _ _)
 by_cases h0:Tr.file t i=0
 case neg =>
  have HN:Hid (Tr.drop t i=(Tr.file t i,t)):=by
   show _=_
   unfold Tr.drop
   rw [if_pos h0]
  rw [HN.out]
  rw [if_neg h0] at HF
  obtain ⟨k,hk⟩:∃ k,k=Tr.file t i:=⟨_,rfl⟩
  rw [← hk] at HF h0 ⊢
  have hki:((k:Int) != 0)=true:=by rw [bne_iff_ne];omega
  clear h hG h0 hk
  go_enter Tryz.func27,Tryz.ntmps27
  go_wp2_with fail
  refine HF.out.mono ?_
  rintro e1 w1 ⟨rfl,rfl⟩
  go_wp2_with fail
  go_ret
  exact HS.out _
 rw [if_pos h0,h0] at HF
 obtain ⟨e,j,h1,h2,h3,h4,h5,h6⟩:=file_at h0
 rw [h3] at HF
 have hpos:0<t.length:=by omega
 obtain ⟨g0,c0,hnv⟩:=h.nvform hpos
 subst hnv
 have cp0:w.cell? ⟨p,0,none⟩=some (.slice (some ⟨g0,0,none⟩) t.length c0):=h.in_.box.cell 0
 have d5:w.cell? ⟨g0,j*6+5,none⟩=some (.bool e.nd.shut):=(h.ndcell h2 5 (by omega)).1
 have hjl:(j:Int)<(t.length:Int):=by omega
 have hdrop:Tr.drop t i=if e.nd.shut=true then (27,t) else (0,Tr.remove (t.map fun e=>{ e with names:=Tr.strike e.names i }) i):=by
  unfold Tr.drop
  rw [if_neg (by rw [h0];simp),Tr.ndOf_of h1]
 have HDR:=Lib.hid hdrop
 have hrs:Tr.Ris (t.map fun e=>{ e with names:=Tr.strike e.names i }):=Tr.map_ris hG.ris fun _=>rfl
 have HGN:Hid (∀ nv2 dv2 ev2 D2 W,RA p nv2 dv2 ev2 D2 (partT i t 0) W→Calls Tryz.prog 63 #[.pointer (some ⟨p,0,none⟩),.int .i64 i] W (RTurn p (Tr.remove (t.map fun e=>{ e with names:=Tr.strike e.names i }) i) (.tuple #[]) (RS p nv2 ev2 D2) W)):=fun nv2 dv2 ev2 D2 W hW=>by
  rw [partT_zero] at hW
  refine gone_of hrs (by rw [List.length_map];exact hG.few) (e:={ e with names:=Tr.strike e.names i }) ?_ ?_ hW
  ·rw [Tr.find_map (f:=fun e=>{ e with names:=Tr.strike e.names i }) (fun _=>rfl),h1];rfl
  ·have hnm:e.names=[]:=(hG.each e (Tr.find_some h1).1).file (by
    rcases hG.kind (Tr.find_some h1).1 with k|k
    ·exact k
    ·exact absurd k h5)
   show Tr.strike e.names i=[]
   rw [hnm];rfl
 obtain ⟨n,hnl⟩:∃ n,n=(Tr.flat t).length:=⟨_,rfl⟩
 have hn5:n≤4194240:=by rw [hnl];exact hG.flat_le
 have HST:Hid (∃ nv2 dv2 ev2 D2,Left p (partT i t n) (RS p (.slice (some ⟨g0,0,none⟩) t.length c0) ev D) w w nv2 dv2 ev2 D2):=by
  refine ⟨.slice (some ⟨g0,0,none⟩) t.length c0,dv,ev,D,?_⟩
  rw [partT_end i t n (by omega)]
  exact h.left
 have hfl:∀ m,m≤n→(partF i (Tr.flat t) m).length≤4194240∧∀ k,k<m→(partF i (Tr.flat t) m)[k]?=(Tr.flat t)[k]?:=fun m hm=>by
  unfold partF
  refine ⟨?_,fun k hk=>?_⟩
  ·rw [List.length_append,List.length_take]
   have:=List.length_filter_le (fun n:Ent=>!(n.2.2==i)) ((Tr.flat t).drop m)
   rw [List.length_drop] at this
   omega
  ·rw [List.getElem?_append_left (by rw [List.length_take];omega),List.getElem?_take,if_pos hk]
 -- one name looked at
 have HSTEP:Hid (∀ (m:Nat) (wr:World),m<n→(∃ nv2 dv2 ev2 D2,Left p (partT i t (m+1)) (RS p (.slice (some ⟨g0,0,none⟩) t.length c0) ev D) w wr nv2 dv2 ev2 D2) →
     ∃ (g L c2:Nat) (k:Int),m<L∧wr.cell? ⟨p,2,none⟩=some (.slice (some ⟨g,0,none⟩) L c2)∧wr.cell? ⟨g,m*3+2,none⟩=some (.int .i64 k) ∧
     (k≠i→∃ nv2 dv2 ev2 D2,Left p (partT i t m) (RS p (.slice (some ⟨g0,0,none⟩) t.length c0) ev D) w wr nv2 dv2 ev2 D2) ∧
     (k=i→Calls Tryz.prog 62 #[.pointer (some ⟨p,0,none⟩),.int .i64 (m:Nat)] wr fun e w'=>e=.returned (.tuple #[])∧∃ nv2 dv2 ev2 D2,Left p (partT i t m) (RS p (.slice (some ⟨g0,0,none⟩) t.length c0) ev D) w w' nv2 dv2 ev2 D2)):=fun m wr hmn ⟨nv2,dv2,ev2,D2,hL⟩=>by
  obtain ⟨y,hy⟩:∃ y,(Tr.flat t)[m]?=some y:=⟨_,List.getElem?_eq_getElem (by omega)⟩
  have hy2:(Tr.flat (partT i t (m+1)))[m]?=some y:=by rw [partT_flat,(hfl (m+1) (by omega)).2 m (by omega),hy]
  obtain ⟨g,c2,hev,hcell⟩:=hL.ra.entcell hy2
  have hml:=(List.getElem?_eq_some_iff.1 hy2).1
  have hmaps:(partT i t m).map (·.nd)=(partT i t (m+1)).map (·.nd)∧(partT i t m).map (·.data)=(partT i t (m+1)).map (·.data):=⟨by rw [(partT_maps i t m).1,(partT_maps i t (m+1)).1],by rw [(partT_maps i t m).2,(partT_maps i t (m+1)).2]⟩
  refine ⟨g,_,c2,y.2.2,hml,by rw [← hev];exact hL.ra.in_.box.cell 2,hcell,fun hk=>?_,fun hk=>?_⟩
  ·refine ⟨nv2,dv2,ev2,D2,⟨hL.ra.same ?_ hmaps.1 hmaps.2,hL.mod,hL.sub⟩⟩
   rw [partT_flat,partT_flat,partF_step i (Tr.flat t) hy,if_neg hk]
  ·refine (cut_any hL.ra m hml (by rw [partT_flat];have:=(hfl (m+1) (by omega)).1;omega) (t':=partT i t m) ?_ hmaps.1 hmaps.2).mono ?_
   ·rw [partT_flat,partT_flat,partF_step i (Tr.flat t) hy,if_pos hk]
   ·intro e w' ht
    obtain ⟨he,nv3,dv3,ev3,D3,hl⟩:=ht.left
    exact ⟨he,nv3,dv3,ev3,D3,hL.then hl⟩
 have cp2:∃ A c,w.cell? ⟨p,2,none⟩=some (.slice A n c):=by
  obtain ⟨A,c,hv,_⟩:=Tm.oF h.in_.ents
  exact ⟨A,c,by rw [hnl,← hv];exact h.in_.box.cell 2⟩
 obtain ⟨A2,c2,cp2⟩:=cp2
 obtain ⟨sh,hsh⟩:∃ sh,sh=e.nd.shut:=⟨_,rfl⟩
 rw [← hsh] at d5 HDR
 clear h hG h0 h1 h2 h3 h4 h5 h6 hpos hdrop hrs hfl hsh hnl
 cases sh with
 | true =>
   have HN:Hid (Tr.drop t i=(27,t)):=HDR.out
   rw [HN.out]
   go_enter Tryz.func27,Tryz.ntmps27
   go_wp2_with fail
   refine HF.out.mono ?_
   rintro e1 w1 ⟨rfl,rfl⟩
   go_wp2_with fail
   go_ret
   exact HS.out _
 | false =>
   have HN:Hid (Tr.drop t i=(0,Tr.remove (t.map fun e=>{ e with names:=Tr.strike e.names i }) i)):=HDR.out
   rw [HN.out]
   have hw0:IntKind.i64.wrap ((n:Int)-1)=(n:Int)-1:=by rw [IntKind.wrap_i64];omega
   go_enter Tryz.func27,Tryz.ntmps27
   go_wp2_with fail
   refine HF.out.mono ?_
   rintro e1 w1 ⟨rfl,rfl⟩
   go_wp2_with fail
   clear cp0 d5 cp2 HF
   go_loopw [7] (fun t7 wr=>∃ m:Nat,t7=.int .i64 ((m:Int)-1)∧m≤n∧Hid (∃ nv2 dv2 ev2 D2,Left p (partT i t m) (RS p (.slice (some ⟨g0,0,none⟩) t.length c0) ev D) w1 wr nv2 dv2 ev2 D2)) (fun t7 _=>(match t7 with|.int _ k=>(k+1).toNat|_=>0))
   case atStart=>exact ⟨n,rfl,Nat.le_refl _,HST.out⟩
   case round =>
    obtain ⟨m,rfl,hm,HI⟩:=hrel
    rcases Nat.eq_zero_or_pos m with hm0|hm0
    ·subst hm0
     obtain ⟨nv2,dv2,ev2,D2,hL⟩:=HI.out
     have HL:=Lib.hid hL
     have HG1:=Lib.hid (HGN.out _ _ _ _ wr hL.ra)
     clear hL
     go_wp2_with fail
     refine HG1.out.mono ?_
     intro r w3 ht
     obtain ⟨rfl,nv3,dv3,ev3,D3,hl3⟩:=ht.left
     have HE:Hid (RTurn p (Tr.remove (t.map fun e=>{ e with names:=Tr.strike e.names i }) i) (.int .i64 0) (RS p (.slice (some ⟨g0,0,none⟩) t.length c0) ev D) w1 (.returned (.int .i64 0)) w3):=(HL.out.then hl3).turn
     clear ht hl3
     go_wp2_with fail
     go_ret
     exact HE.out
    ·obtain ⟨q,rfl⟩:∃ q,m=q+1:=⟨m-1,by omega⟩
     obtain ⟨g,L,c5,k,hqL,d2,dk,hno,hyes⟩:=HSTEP.out q wr (by omega) HI.out
     have hq1:(((q+1:Nat):Int)-1)=(q:Int):=by omega
     rw [hq1]
     have hq0:(0:Int)≤(q:Int):=by omega
     have hqLi:(q:Int)<(L:Int):=by omega
     have hw3:IntKind.i64.wrap ((q:Int)-1)=(q:Int)-1:=by rw [IntKind.wrap_i64];omega
     by_cases hk:k=i
     ·have HC:=Lib.hid (hyes hk)
      subst hk
      clear hno hyes hq1
      go_wp2_with fail
      refine HC.out.mono ?_
      rintro r w3 ⟨rfl,hI3⟩
      have HI3:=Lib.hid hI3
      clear hI3
      go_wp2_with fail
      go_roundw
      case rel=>exact ⟨q,rfl,by omega,HI3.out⟩
      case measure=>simp <;> omega
     ·have hkb:(k==i)=false:=by rw [beq_eq_false_iff_ne];exact hk
      have HI3:=Lib.hid (hno hk)
      clear hno hyes hq1 hk
      go_wp2_with fail
      go_roundw
      case rel=>exact ⟨q,rfl,by omega,HI3.out⟩
      case measure=>simp <;> omega
end Rf
end Go.Proofs.YtjoedamiilgajaaGreat
namespace Go.Proofs.YtjoedamiilgajaaGreat
open Go.RowKit Rc
open Tr (Nm En T)
namespace Rf
variable {p:Nat} {nv dv ev:Value} {D:Nat→Prop} {t t':T} {w w1 w2:World}
theorem within_take (l o:List Bs):Tr.within l o=decide (o=l.take o.length):=by
 unfold Tr.within
 rw [Bool.eq_iff_iff,List.isPrefixOf_iff_prefix,List.prefix_iff_eq_take,decide_eq_true_eq]
set_option maxRecDepth 100000 in
theorem onto_any (h:RA p nv dv ev D t w) (hG:Tr.Good t) (d:Int) (x:Bs) (k i:Int) (hg:Tr.get (Tr.kids t d) x=some k) :
    Calls Tryz.prog 128 #[.pointer (some ⟨p,0,none⟩),.int .i64 d,.string (strOf x),.int .i64 i] w fun e w'=>e=.returned (.int .i64 ((if k=i then 0 else 21:Nat):Nat))∧Below w.heap.size w w':=by
 rcases flat_idx hG d x with ⟨k1,_⟩|⟨k0,j,k1,k2,k3,k4⟩
 ·rw [hg] at k1;cases k1
 rw [hg] at k1
 injection k1 with k1
 subst k1
 have HEN:Hid (∀ W,Below w.heap.size w W→Calls Tryz.prog 54 #[.pointer (some ⟨p,0,none⟩),.int .i64 d,.string (strOf x)] W fun e w'=>e=.returned (.int .i64 (j:Nat))∧w'=W):=fun W hW=>by
  have:=entry_any (h.below hW).in_ d x (by have:=hG.flat_le;omega)
  rw [k2] at this
  exact this
 obtain ⟨g,c,hev,hcell⟩:=h.entcell k3
 have c2:w.cell? ⟨p,2,none⟩=some ev:=h.in_.box.cell 2
 obtain ⟨n,hn⟩:∃ n,n=(Tr.flat t).length:=⟨_,rfl⟩
 rw [← hn] at hev k4
 have hjn:(j:Int)<(n:Int):=by omega
 subst hev
 simp only at hcell
 clear h hG hg k2 k3 hn k4
 by_cases hk:k=i
 ·subst hk
  rw [if_pos rfl]
  go_enter Tryz.func128,Tryz.ntmps128
  go_upto_region 1 with (fail)
  go_region_held3 (fun w'=>w'.cell? ⟨p,2,none⟩=some (.slice (some ⟨g,0,none⟩) n c)∧w'.cell? ⟨g,j*3+2,none⟩=some (.int .i64 k))
   (first
    | go_keep)
   (first
    | (go_at_call 54;refine (HEN.out _ (undrewR (Below.refl _ _))).mono ?_;rintro e1 w3 ⟨rfl,rfl⟩)
    | fail)
  go_wp2_with fail
  go_ret
  exact ⟨rfl,⟨rfl,rfl,rfl,Nat.le_refl _,fun _ _=>rfl⟩⟩
 ·have hkb:(k==i)=false:=by rw [beq_eq_false_iff_ne];exact hk
  rw [if_neg hk]
  clear hk
  go_enter Tryz.func128,Tryz.ntmps128
  go_upto_region 1 with (fail)
  go_region_held3 (fun w'=>w'.cell? ⟨p,2,none⟩=some (.slice (some ⟨g,0,none⟩) n c)∧w'.cell? ⟨g,j*3+2,none⟩=some (.int .i64 k))
   (first
    | go_keep)
   (first
    | (go_at_call 54;refine (HEN.out _ (undrewR (Below.refl _ _))).mono ?_;rintro e1 w3 ⟨rfl,rfl⟩)
    | fail)
  go_wp2_with fail
  go_ret
  exact ⟨rfl,⟨rfl,rfl,rfl,Nat.le_refl _,fun _ _=>rfl⟩⟩
set_option maxRecDepth 100000 in
theorem rename_any (h:RA p nv dv ev D t w) (hG:Tr.Good t) (A A2:Option Addr) (q r:List Bs) (cap cap2:Nat) (hr:RdS w A q) (hc:q.length≤cap) (hl:q.length≤1000000) (hs:∀ s ∈ q,s.length≤1000000) (hr2:RdS w A2 r) (hc2:r.length≤cap2) (hl2:r.length≤1000000) (hs2:∀ s ∈ r,s.length≤1000000) :
    Calls Tryz.prog 82 #[.pointer (some ⟨p,0,none⟩),.slice A q.length cap,.slice A2 r.length cap2] w (RTurn p (Tr.rename t q r).2 (.int .i64 ((Tr.rename t q r).1:Nat)) (RS p nv ev D) w):=by
 have HS:Hid (∀ x W,Below w.heap.size w W→RTurn p t x (RS p nv ev D) w (.returned x) W):=fun x W hW=>RTurn.stay h hW
 have H1:=Lib.hid (rights_any w A A2 q r cap cap2 hr hl hs hr2 hl2 hs2)
 obtain ⟨i,n,hin⟩:∃ i n,Tr.lF t 0 q=(i,n):=⟨_,_,rfl⟩
 have hlk:=lookF_any h.in_ hG h.low A q cap hr hl
 rw [hin] at hlk
 have H2:=Lib.hid hlk
 have H3:Hid (∀ W,Below w.heap.size w W→Calls Tryz.prog 35 #[.pointer (some ⟨p,0,none⟩),.int .i64 i] W fun e w'=>e=.returned (.tuple #[(Tr.node t i).1.val,.bool (Tr.node t i).2])∧Below W.heap.size W w'):=fun W hW=>node_any (h.below hW).in_ (h.below hW).low i (by have:=hG.few;omega)
 obtain ⟨d,x,m,hpl⟩:∃ d x m,Tr.place t r=(d,x,m):=⟨_,_,_,rfl⟩
 have H4:Hid (∀ W,Below w.heap.size w W→Calls Tryz.prog 53 #[.pointer (some ⟨p,0,none⟩),.slice A2 r.length cap2] W fun e w'=>e=.returned (.tuple #[.int .i64 d,.string (strOf x),.int .i64 (m:Nat)])∧Below W.heap.size W w'):=fun W hW=>by
  have:=place_any (h.below hW) hG A2 r cap2 (hr2.below hW) hc2 hl2
  rw [hpl] at this
  exact this
 have H5:Hid (∀ W,Below w.heap.size w W→Calls Tryz.prog 54 #[.pointer (some ⟨p,0,none⟩),.int .i64 d,.string (strOf x)] W fun e w'=>e=.returned (.int .i64 (idxE (Tr.flat t) d x))∧w'=W):=fun W hW=>entry_any (h.below hW).in_ d x (by have:=hG.flat_le;omega)
 have H6:Hid (∀ W,Below w.heap.size w W→Calls Tryz.prog 127 #[.slice A2 r.length cap2,.slice A q.length cap] W fun e w'=>e=.returned (.bool (Tr.within r q))∧Below W.heap.size W w'):=fun W hW=>by
  have:=refWithin_names W r q A2 A cap2 cap (hr2.below hW) (hr.below hW) hl2 hl
  rw [← within_take] at this
  exact this
 have H7:Hid (∀ W,Below w.heap.size w W→Calls Tryz.prog 129 #[.pointer (some ⟨p,0,none⟩),.int .i64 i] W fun e w'=>e=.returned (.int .i64 (Tr.high t 64 i:Nat))∧Below W.heap.size W w'):=fun W hW=>deep_any (h.below hW) hG i
 have H8:Hid (∀ W k,Below w.heap.size w W→Tr.get (Tr.kids t d) x=some k→Calls Tryz.prog 128 #[.pointer (some ⟨p,0,none⟩),.int .i64 d,.string (strOf x),.int .i64 i] W fun e w'=>e=.returned (.int .i64 ((if k=i then 0 else 21:Nat):Nat))∧Below W.heap.size W w'):=fun W k hW hk=>onto_any (h.below hW) hG d x k i hk
 have hren:Tr.rename t q r=if (if Tr.formed q≠0 then Tr.formed q else Tr.formed r)≠0 then (if Tr.formed q≠0 then Tr.formed q else Tr.formed r,t) else if n≠0 then (n,t) else if q=[] then (1,t) else if m≠0 then (m,t) else if (Tr.ndOf t i).kind=2∧Tr.within r q=true then (1,t) else if Tr.get (Tr.kids t d) x=some i then (0,t) else if (Tr.get (Tr.kids t d) x).isSome then (21,t) else if 8<r.length+Tr.high t 64 i then (3,t) else (0,Tr.put (Tr.cut t (Tr.place t q).1 (Tr.place t q).2.1) d x i):=by
  unfold Tr.rename Tr.kindOf
  rw [hin,hpl]
  by_cases h1:Tr.formed q=0 <;> simp [h1]
 have HFIL:Hid ((Tr.ndOf t i).kind≠2→Tr.formed r=0→¬ 8<r.length+Tr.high t 64 i):=fun hk hf=>by
  rw [high_file hG 64 (show Tr.kindOf t i≠2 from hk)]
  have:=(Tr.formed_ok hf).1
  omega
 have HGO:Hid (m=0→n=0→q≠[]→Tr.get (Tr.kids t d) x=none→∃ (d0:Int) (x0:Bs) (j:Nat),(Tr.place t q).1=d0∧(Tr.place t q).2.1=x0 ∧
     (∀ W,Below w.heap.size w W→Calls Tryz.prog 53 #[.pointer (some ⟨p,0,none⟩),.slice A q.length cap] W fun e w'=>e=.returned (.tuple #[.int .i64 d0,.string (strOf x0),.int .i64 0])∧Below W.heap.size W w') ∧
     (∀ W,Below w.heap.size w W→Calls Tryz.prog 54 #[.pointer (some ⟨p,0,none⟩),.int .i64 d0,.string (strOf x0)] W fun e w'=>e=.returned (.int .i64 (j:Nat))∧w'=W) ∧
     (∀ W,Below w.heap.size w W→Calls Tryz.prog 62 #[.pointer (some ⟨p,0,none⟩),.int .i64 (j:Nat)] W fun e w'=>e=.returned (.tuple #[])∧∃ nv2 dv2 ev2 D2,Left p (Tr.cut t d0 x0) (RS p nv ev D) W w' nv2 dv2 ev2 D2) ∧
     (∀ W nv2 dv2 ev2 D2,RA p nv2 dv2 ev2 D2 (Tr.cut t d0 x0) W→Calls Tryz.prog 56 #[.pointer (some ⟨p,0,none⟩),.int .i64 d,.string (strOf x),.int .i64 i] W (RTurn p (Tr.put (Tr.cut t d0 x0) d x i) (.tuple #[]) (RS p nv2 ev2 D2) W))):=fun hm hn hqne _=>by
  subst hm hn
  obtain ⟨r0,x0,d0,en,_,_,k3,_,k5,k6⟩:=hG.looked hin hqne
  obtain ⟨j,m1,m2⟩:=rm_name hG k3 k5 h
  obtain ⟨ed,q1,_,_⟩:=placed_find hG hpl
  have hrc:Tr.Ris (Tr.cut t d0 x0):=Tr.upd_ris hG.ris fun _=>rfl
  have hfd:Tr.find (Tr.cut t d0 x0) d=some (if d=d0 then { ed with names:=Tr.del ed.names x0 } else ed):=by
   unfold Tr.cut
   rw [Tr.find_upd (Tr.cut_id x0),q1];rfl
  have hlc:(Tr.flat (Tr.cut t d0 x0)).length≤4194240:=by
   rw [flat_cut_filter]
   exact Nat.le_trans (List.length_filter_le _ _) hG.flat_le
  refine ⟨d0,x0,j,by rw [k6],by rw [k6],fun W hW=>?_,fun W hW=>?_,m2,fun W nv2 dv2 ev2 D2 hW=>add_any hW d x i (by omega) (flat_put_is hrc hfd x i) (put_maps _ d x i).1 (put_maps _ d x i).2⟩
  ·have:=place_any (h.below hW) hG A q cap (hr.below hW) hc hl
   rw [k6] at this
   exact this
  ·have:=entry_any (h.below hW).in_ d0 x0 (by have:=hG.flat_le;omega)
   rw [m1] at this
   exact this
 have HLF0:Hid (∀ W,Below w.heap.size w W→Left p t (RS p nv ev D) w W nv dv ev D):=fun W hW=>h.left.later hW
 have HH64:=high_le t 64 i
 have HFI:=Lib.hid (flat_idx hG d x)
 have hfr:(if Tr.formed q≠0 then Tr.formed q else Tr.formed r)=0→Tr.formed r=0:=fun e=>by
  by_cases h1:Tr.formed q=0
  ·rw [if_neg (by simp [h1])] at e;exact e
  ·rw [if_pos h1] at e;exact absurd e h1
 have HFR:=Lib.hid hfr
 have e0:Tr.node t i=(Tr.ndOf t i,(Tr.find t i).isSome):=rfl
 rw [e0] at H3
 obtain ⟨fo,hfo⟩:∃ fo,fo=(Tr.find t i).isSome:=⟨_,rfl⟩
 rw [← hfo] at H3
 obtain ⟨⟨a1,a2,a3,a4,a5,a6⟩,hnd⟩:∃ nd,nd=Tr.ndOf t i:=⟨_,rfl⟩
 rw [← hnd] at H3 hren HFIL
 unfold Nd.val at H3
 simp only at H3 hren HFIL
 obtain ⟨f,hf⟩:∃ f,f=if Tr.formed q≠0 then Tr.formed q else Tr.formed r:=⟨_,rfl⟩
 rw [← hf] at H1 hren HFR
 obtain ⟨hh,hhd⟩:∃ hh,hh=Tr.high t 64 i:=⟨_,rfl⟩
 rw [← hhd] at H7 hren HFIL HH64
 obtain ⟨wn,hwn⟩:∃ wn,wn=Tr.within r q:=⟨_,rfl⟩
 rw [← hwn] at H6 hren
 have HRE:=Lib.hid hren
 have HQN:Hid (q=[]↔q.length=0):=List.length_eq_zero_iff.symm
 obtain ⟨ql,hql⟩:∃ ql,ql=q.length:=⟨_,rfl⟩
 obtain ⟨rl,hrl⟩:∃ rl,rl=r.length:=⟨_,rfl⟩
 have hql6:ql≤1000000:=by omega
 have hrl6:rl≤1000000:=by omega
 rw [← hql] at H1 H2 H6 HGO HQN ⊢
 rw [← hrl] at H1 H4 H6 HRE HFIL ⊢
 clear h hG hr hr2 hs hs2 hin hlk hpl hren e0 hfo hnd hf hc hc2 hl hl2 hfr hhd hwn hql hrl
 go_enter Tryz.func82,Tryz.ntmps82
 go_wp2_with fail
 refine H1.out.mono ?_
 rintro e w1 ⟨rfl,rfl⟩
 by_cases hf:f=0
 case neg =>
  have hfb:((f:Int) != 0)=true:=by rw [bne_iff_ne];omega
  have HN:Hid (Tr.rename t q r=(f,t)):=by
   have:=HRE.out
   rw [if_pos hf] at this
   exact this
  clear hf HRE
  go_wp2_with fail
  go_ret
  rw [HN.out]
  exact HS.out _ _ (Below.refl _ _)
 have HF0:=Lib.hid (HFR.out hf)
 subst hf
 rw [if_neg (by simp)] at HRE
 go_wp2_with fail
 refine H2.out.mono ?_
 rintro e w2 ⟨rfl,hb2⟩
 have HB2:=Lib.hid hb2
 clear hb2 H1 H2 HFR
 by_cases hn:n=0
 case neg =>
  have hnb:((n:Int) != 0)=true:=by rw [bne_iff_ne];omega
  have HN:Hid (Tr.rename t q r=(n,t)):=by
   have:=HRE.out
   rw [if_pos hn] at this
   exact this
  clear hn HRE
  go_wp2_with fail
  go_ret
  rw [HN.out]
  exact HS.out _ _ HB2.out
 subst hn
 rw [if_neg (by simp)] at HRE
 by_cases hq0:ql=0
 ·have HN:Hid (Tr.rename t q r=(1,t)):=by
   have:=HRE.out
   rw [if_pos (HQN.out.2 hq0)] at this
   exact this
  subst hq0
  clear HRE
  go_wp2_with fail
  go_ret
  rw [HN.out]
  exact HS.out _ _ HB2.out
 have HQNE:Hid (q≠[]):=fun e=>hq0 (HQN.out.1 e)
 have hqi:((ql:Int)==0)=false:=by rw [beq_eq_false_iff_ne];omega
 rw [if_neg HQNE.out] at HRE
 have H4a:=Lib.hid (H4.out _ HB2.out)
 clear hq0 HQN
 go_wp2_with fail
 refine H4a.out.mono ?_
 rintro e w3 ⟨rfl,hb3⟩
 have HB3:Hid (Below w1.heap.size w1 w3):=HB2.out.trans (hb3.mono HB2.out.size)
 clear hb3 H4 H4a
 by_cases hm:m=0
 case neg =>
  have hmb:((m:Int) != 0)=true:=by rw [bne_iff_ne];omega
  have HN:Hid (Tr.rename t q r=(m,t)):=by
   have:=HRE.out
   rw [if_pos hm] at this
   exact this
  clear hm HRE
  go_wp2_with fail
  go_ret
  rw [HN.out]
  exact HS.out _ _ HB3.out
 subst hm
 rw [if_neg (by simp)] at HRE
 have H3a:=Lib.hid (H3.out _ HB3.out)
 go_wp2_with fail
 refine H3a.out.mono ?_
 rintro e w4 ⟨rfl,hb4⟩
 have HB4:Hid (Below w1.heap.size w1 w4):=HB3.out.trans (hb4.mono HB3.out.size)
 obtain ⟨wb,hwb⟩:∃ wb,wb=w4.alloc (.cells #[.int .i64 a1,.int .i64 a2,.int .i64 a3,.int .i64 a4,.int .u64 (a5:Nat),.bool a6] 59):=⟨_,rfl⟩
 have HB5:Hid (Below w1.heap.size w1 wb):=by show Below _ _ _;rw [hwb];exact HB4.out.alloc HB4.out.size _
 have HBK:Hid (Blk wb w4.heap.size 59 [.int .i64 a1,.int .i64 a2,.int .i64 a3,.int .i64 a4,.int .u64 (a5:Nat),.bool a6]):=by show Blk _ _ _ _;rw [hwb];exact Blk.new w4 _ _
 clear hb4 H3 H3a
 go_upto_region 13 with (fail)
 rw [← hwb]
 clear hwb
 have c1:wb.cell? ⟨w4.heap.size,1,none⟩=some (.int .i64 a2):=HBK.out.cell 1
 have H6a:=Lib.hid (H6.out _ HB5.out)
 -- what comes behind the first two questions
 have HREST:Hid (¬ (a2=2∧wn=true)→∀ W,Below wb.heap.size wb W→True):=fun _ _ _=>trivial
 by_cases h2:a2=2
 ·subst h2
  cases wn with
  | true =>
    have HN:Hid (Tr.rename t q r=(1,t)):=by
     have:=HRE.out
     rw [if_pos ⟨rfl,rfl⟩] at this
     exact this
    clear HRE
    go_wp2_with fail
    refine H6a.out.mono ?_
    rintro e w5 ⟨rfl,hb5⟩
    have HB6:Hid (Below w1.heap.size w1 w5):=HB5.out.trans (hb5.mono HB5.out.size)
    clear hb5
    go_wp2_with fail
    go_ret
    rw [HN.out]
    exact HS.out _ _ HB6.out
  | false =>
    rw [if_neg (by simp)] at HRE
    go_wp2_with fail
    refine H6a.out.mono ?_
    rintro e w5 ⟨rfl,hb5⟩
    have HB6:Hid (Below w1.heap.size w1 w5):=HB5.out.trans (hb5.mono HB5.out.size)
    have c1:w5.cell? ⟨w4.heap.size,1,none⟩=some (.int .i64 2):=(HBK.out.below hb5 HBK.out.lt).cell 1
    have H5a:=Lib.hid (H5.out _ HB6.out)
    clear hb5 H6 H6a HBK
    rcases HFI.out with ⟨k1,k2⟩|⟨k,j,k1,k2,_,_⟩
    case inr =>
     have HN:Hid (Tr.rename t q r=(if k=i then 0 else 21,t)):=by
      have:=HRE.out
      rw [k1] at this
      by_cases hki:k=i
      ·subst hki
       rw [if_pos rfl] at this
       rw [if_pos rfl]
       exact this
      ·rw [if_neg (fun e=>hki (by injection e)),if_pos (show (Option.some k).isSome=true from rfl)] at this
       rw [if_neg hki]
       exact this
     rw [k2] at H5a
     have H8a:=Lib.hid (H8.out _ k HB6.out k1)
     obtain ⟨z,hz⟩:∃ z:Nat,z=if k=i then 0 else 21:=⟨_,rfl⟩
     rw [← hz] at H8a HN
     have hj0:(0:Int)≤(j:Int):=by omega
     clear k1 k2 HRE hz
     go_wp2_with fail
     refine H5a.out.mono ?_
     rintro e w6 ⟨rfl,rfl⟩
     go_wp2_with fail
     refine H8a.out.mono ?_
     rintro e w7 ⟨rfl,hb7⟩
     have HB7:Hid (Below w1.heap.size w1 w7):=HB6.out.trans (hb7.mono HB6.out.size)
     clear hb7
     go_wp2_with fail
     go_ret
     rw [HN.out]
     exact HS.out _ _ HB7.out
    rw [k2] at H5a
    have HK1:=Lib.hid k1
    rw [k1,if_neg (by simp),if_neg (by simp)] at HRE
    clear k1 k2
    have H7a:=Lib.hid (H7.out _ HB6.out)
    have hsum:IntKind.i64.wrap ((hh:Int)+(rl:Int))=((rl+hh:Nat):Int):=by rw [IntKind.wrap_i64];omega
    obtain ⟨sm,hsm⟩:∃ sm,sm=rl+hh:=⟨_,rfl⟩
    rw [← hsm] at hsum HRE
    clear hsm
    by_cases h8:8<sm
    ·have h8i:(8:Int)<(sm:Int):=by omega
     have HN:Hid (Tr.rename t q r=(3,t)):=by
      have:=HRE.out
      rw [if_pos h8] at this
      exact this
     clear HRE h8
     go_wp2_with fail
     refine H5a.out.mono ?_
     rintro e w6 ⟨rfl,rfl⟩
     go_wp2_with fail
     refine H7a.out.mono ?_
     rintro e w7 ⟨rfl,hb7⟩
     have HB7:Hid (Below w1.heap.size w1 w7):=HB6.out.trans (hb7.mono HB6.out.size)
     clear hb7
     go_wp2_with fail
     go_ret
     rw [HN.out]
     exact HS.out _ _ HB7.out
    have h8i:¬ (8:Int)<(sm:Int):=by omega
    rw [if_neg h8] at HRE
    obtain ⟨d0,x0,j0,e1,e2,G1,G2,G3,G4⟩:=HGO.out (by first|rfl|trivial) (by first|rfl|trivial) HQNE.out HK1.out
    rw [e1,e2] at HRE
    have G1:=Lib.hid G1
    have G2:=Lib.hid G2
    have G3:=Lib.hid G3
    have G4:=Lib.hid G4
    clear h8 HGO e1 e2
    go_wp2_with fail
    refine H5a.out.mono ?_
    rintro e w6 ⟨rfl,rfl⟩
    go_wp2_with fail
    refine H7a.out.mono ?_
    rintro e w7 ⟨rfl,hb7⟩
    have HB7:Hid (Below w1.heap.size w1 w7):=HB6.out.trans (hb7.mono HB6.out.size)
    have G1a:=Lib.hid (G1.out _ HB7.out)
    clear hb7 H5 H5a H7 H7a
    go_wp2_with fail
    refine G1a.out.mono ?_
    rintro e w8 ⟨rfl,hb8⟩
    have HB8:Hid (Below w1.heap.size w1 w8):=HB7.out.trans (hb8.mono HB7.out.size)
    have G2a:=Lib.hid (G2.out _ HB8.out)
    have G3a:=Lib.hid (G3.out _ HB8.out)
    clear hb8 G1 G1a
    go_wp2_with fail
    refine G2a.out.mono ?_
    rintro e w9 ⟨rfl,rfl⟩
    go_wp2_with fail
    refine G3a.out.mono ?_
    rintro e w10 ⟨rfl,nv2,dv2,ev2,D2,hl⟩
    have HL:Hid (Left p (Tr.cut t d0 x0) (RS p nv ev D) w1 w10 nv2 dv2 ev2 D2):=(HLF0.out _ HB8.out).then hl
    have G4a:=Lib.hid (G4.out _ _ _ _ _ hl.ra)
    clear hl G2 G2a G3 G3a G4
    go_wp2_with fail
    refine G4a.out.mono ?_
    intro e w11 ht
    obtain ⟨rfl,nv3,dv3,ev3,D3,hl2⟩:=ht.left
    have HE:Hid (RTurn p (Tr.put (Tr.cut t d0 x0) d x i) (.int .i64 0) (RS p nv ev D) w1 (.returned (.int .i64 0)) w11):=(HL.out.then hl2).turn
    clear ht hl2 G4a HL
    go_wp2_with fail
    go_ret
    rw [HRE.out]
    exact HE.out
 ·have h2b:(a2==2)=false:=by rw [beq_eq_false_iff_ne];exact h2
  rw [if_neg (fun e=>h2 e.1)] at HRE
  have H5a:=Lib.hid (H5.out _ HB5.out)
  rcases HFI.out with ⟨k1,k2⟩|⟨k,j,k1,k2,_,_⟩
  case inr =>
   have HN:Hid (Tr.rename t q r=(if k=i then 0 else 21,t)):=by
    have:=HRE.out
    rw [k1] at this
    by_cases hki:k=i
    ·subst hki
     rw [if_pos rfl] at this
     rw [if_pos rfl]
     exact this
    ·rw [if_neg (fun e=>hki (by injection e)),if_pos (show (Option.some k).isSome=true from rfl)] at this
     rw [if_neg hki]
     exact this
   rw [k2] at H5a
   have H8a:=Lib.hid (H8.out _ k HB5.out k1)
   obtain ⟨z,hz⟩:∃ z:Nat,z=if k=i then 0 else 21:=⟨_,rfl⟩
   rw [← hz] at H8a HN
   have hj0:(0:Int)≤(j:Int):=by omega
   clear k1 k2 HRE hz h2
   go_wp2_with fail
   refine H5a.out.mono ?_
   rintro e w6 ⟨rfl,rfl⟩
   go_wp2_with fail
   refine H8a.out.mono ?_
   rintro e w7 ⟨rfl,hb7⟩
   have HB7:Hid (Below w1.heap.size w1 w7):=HB5.out.trans (hb7.mono HB5.out.size)
   clear hb7
   go_wp2_with fail
   go_ret
   rw [HN.out]
   exact HS.out _ _ HB7.out
  rw [k2] at H5a
  have HK1:=Lib.hid k1
  rw [k1,if_neg (by simp),if_neg (by simp),if_neg (HFIL.out h2 HF0.out)] at HRE
  clear k1 k2
  obtain ⟨d0,x0,j0,e1,e2,G1,G2,G3,G4⟩:=HGO.out (by first|rfl|trivial) (by first|rfl|trivial) HQNE.out HK1.out
  rw [e1,e2] at HRE
  have G1a:=Lib.hid (G1 _ HB5.out)
  have G2:=Lib.hid G2
  have G3:=Lib.hid G3
  have G4:=Lib.hid G4
  clear HGO e1 e2 h2 G1
  go_wp2_with fail
  refine H5a.out.mono ?_
  rintro e w7 ⟨rfl,rfl⟩
  clear H5 H5a H7
  go_wp2_with fail
  refine G1a.out.mono ?_
  rintro e w8 ⟨rfl,hb8⟩
  have HB8:Hid (Below w1.heap.size w1 w8):=HB5.out.trans (hb8.mono HB5.out.size)
  have G2a:=Lib.hid (G2.out _ HB8.out)
  have G3a:=Lib.hid (G3.out _ HB8.out)
  clear hb8 G1a
  go_wp2_with fail
  refine G2a.out.mono ?_
  rintro e w9 ⟨rfl,rfl⟩
  go_wp2_with fail
  refine G3a.out.mono ?_
  rintro e w10 ⟨rfl,nv2,dv2,ev2,D2,hl⟩
  have HL:Hid (Left p (Tr.cut t d0 x0) (RS p nv ev D) w1 w10 nv2 dv2 ev2 D2):=(HLF0.out _ HB8.out).then hl
  have G4a:=Lib.hid (G4.out _ _ _ _ _ hl.ra)
  clear hl G2 G2a G3 G3a G4
  go_wp2_with fail
  refine G4a.out.mono ?_
  intro e w11 ht
  obtain ⟨rfl,nv3,dv3,ev3,D3,hl2⟩:=ht.left
  have HE:Hid (RTurn p (Tr.put (Tr.cut t d0 x0) d x i) (.int .i64 0) (RS p nv ev D) w1 (.returned (.int .i64 0)) w11):=(HL.out.then hl2).turn
  clear ht hl2 G4a HL
  go_wp2_with fail
  go_ret
  rw [HRE.out]
  exact HE.out
end Rf
end Go.Proofs.YtjoedamiilgajaaGreat
