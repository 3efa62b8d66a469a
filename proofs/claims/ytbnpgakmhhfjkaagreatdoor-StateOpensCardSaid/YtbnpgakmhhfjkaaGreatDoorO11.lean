/-
  OWN WORK. CpRCode, TsRd, RfMem, RfAt, RfNode, RfIdx, RfRow, TsEntR, TsEnt
-/
import Derived.Test.YtbnpgakmhhfjkaaGreatDoorO10
import Derived.Test.YtbnpgakmhhfjkaaGreatDoorO04
import Derived.Test.YtbnpgakmhhfjkaaGreatDoorO05
import Derived.Test.YtbnpgakmhhfjkaaGreatDoorO06
import Derived.Test.YtbnpgakmhhfjkaaGreatDoorO02
import Derived.Test.YtbnpgakmhhfjkaaGreatDoorO08b
import Derived.Test.YtbnpgakmhhfjkaaGreatDoorO03
import Derived.Deep.RegionHeld3
namespace Go.Proofs.YtbnpgakmhhfjkaaGreatDoor
open Go.RowKit Rc
structure RrIn (g:Nat) (X:Option Addr) (cap:Nat) (r:List UInt8) (why:Nat) (w:World):Prop where
 blk:Blk w g 183 [.slice X r.length cap,.int .i64 (why:Nat)]
 fits:r.length≤cap
 small:r.length≤140737488355328
 rd:Rd w X r
 off:∀ b,X.map (·.block)=some b→b≠g∧b<w.heap.size
def RrS (g:Nat) (X:Option Addr):Nat→Prop:=fun b=>b=g∨X.map (·.block)=some b
def RrAt (v:Value) (s:Co.Rs) (S:Nat→Prop) (w:World):Prop :=
 ∃ g X cap r,v=.pointer (some ⟨g,0,none⟩)∧RrIn g X cap r s.why w∧r=(if s.why=0 then s.rem else [])∧s.why≤1000∧S=RrS g X
def TakeOut (g:Nat) (X:Option Addr) (n:Int) (s:Co.Rs) (w:World) (e:Ending) (w':World):Prop :=
 ∃ X1 l c1 X2 r2 c2,e=.returned (.slice X1 (List.length l) c1)∧l=(Co.raw n s).1∧l.length≤c1∧Rd w' X1 l∧RrIn g X2 c2 r2 (Co.raw n s).2.why w'∧r2=(if (Co.raw n s).2.why=0 then (Co.raw n s).2.rem else []) ∧
  (∀ b,X2.map (·.block)=some b→X.map (·.block)=some b)∧(∀ b,0<l.length→X1.map (·.block)=some b→X.map (·.block)=some b)∧Keeps w w' g
set_option maxHeartbeats 1000000 in
theorem refuse_any {g:Nat} {X:Option Addr} {cap:Nat} {r:List UInt8} {why:Nat} {w:World} (h:RrIn g X cap r why w) (y:Nat) (_hy:y≤1000) :
    Calls Tryz.prog 176 #[.pointer (some ⟨g,0,none⟩),.int .i64 (y:Nat)] w fun e w'=>e=.returned (.tuple #[])∧RrIn g none 0 [] (if why=0 then y else why) w'∧Keeps w w' g:=by
 have c1:w.cell? ⟨g,1,none⟩=some (.int .i64 (why:Nat)):=h.blk.cell 1
 have c0:w.cell? ⟨g,0,none⟩=some (.slice X r.length cap):=h.blk.cell 0
 have f0:=h.blk.frozen 0
 have f1:=h.blk.frozen 1
 have HB:=Lib.hid h.blk
 clear h
 by_cases h1:why=0
 ·subst h1
  go_enter Tryz.func176,Tryz.ntmps176
  go_wp2_with fail
  go_end0
  exact ⟨rfl,⟨(HB.out.set_ 1 _).set_ 0 _,by simp,by simp,Rd.nil _ _,by simp⟩,((Keeps.refl _ _).setCell _ _).setCell _ _⟩
 ·have hw:((why:Nat):Int)≠0:=by omega
  go_enter Tryz.func176,Tryz.ntmps176
  go_wp2_with fail
  go_end0
  exact ⟨rfl,⟨HB.out.set_ 0 _,by simp,by simp,Rd.nil _ _,by simp⟩,(Keeps.refl _ _).setCell _ _⟩
set_option maxHeartbeats 1000000 in
set_option maxRecDepth 100000 in
theorem take_any {g:Nat} {X:Option Addr} {cap:Nat} {r:List UInt8} {s:Co.Rs} {w:World} (h:RrIn g X cap r s.why w) (hr:r=if s.why=0 then s.rem else []) (n:Int) (hn:n≤140737488355328) (hn0:-140737488355328≤n) :
    Calls Tryz.prog 134 #[.pointer (some ⟨g,0,none⟩),.int .i64 n] w (TakeOut g X n s w):=by
 have H:=Lib.hid h
 have HRR:=Lib.hid hr
 have c0:w.cell? ⟨g,0,none⟩=some (.slice X r.length cap):=h.blk.cell 0
 have f0:=h.blk.frozen 0
 have hsm:=h.small
 have hfit:=h.fits
 clear h hr
 by_cases h1:n<1
 ·go_enter Tryz.func134,Tryz.ntmps134
  go_wp2_with fail
  go_ret
  have e:Co.raw n s=([],s):=by unfold Co.raw;rw [if_pos (.inr h1)]
  refine ⟨none,[],0,X,r,cap,rfl,by rw [e],by simp,Rd.nil _ _,?_,?_,fun b h=>h,fun b h=>absurd h (by simp),Keeps.refl _ _⟩
  ·rw [e];exact H.out
  ·rw [e];exact HRR.out
 ·by_cases h2:((r.length:Nat):Int)<n
  ·go_enter Tryz.func134,Tryz.ntmps134
   go_wp2_with fail
   refine (refuse_any H.out 10 (by omega)).mono ?_
   rintro e w1 ⟨rfl,hin,hk⟩
   have HI:=Lib.hid hin
   have HK:=Lib.hid hk
   clear hin hk
   go_wp2_with fail
   go_ret
   have e:(Co.raw n s).1=[]∧(Co.raw n s).2.why=(if s.why=0 then 10 else s.why):=by
    have:=HRR.out
    unfold Co.raw
    by_cases hw:s.why=0
    ·rw [if_pos hw] at this
     subst this
     rw [if_neg (by simp [hw];omega),if_pos h2,if_pos hw]
     exact ⟨rfl,rfl⟩
    ·rw [if_pos (.inl hw),if_neg hw]
     exact ⟨rfl,rfl⟩
   have ew:(Co.raw n s).2.why≠0:=by rw [e.2];split <;> omega
   refine ⟨none,[],0,none,[],0,rfl,e.1.symm,by simp,Rd.nil _ _,?_,by rw [if_neg ew],fun b h=>(by cases h),fun b h=>absurd h (by simp),HK.out⟩
   rw [e.2]
   exact HI.out
  ·obtain ⟨q,rfl⟩:∃ q:Nat,n=(q:Nat):=⟨n.toNat,by omega⟩
   go_enter Tryz.func134,Tryz.ntmps134
   have hqr:q≤r.length:=by omega
   have hslh:=fun W=>sl_h W X r.length cap q (by omega)
   have hsll:=fun W=>sl_l W X r.length cap q hqr
   have HW:Hid (s.why=0∧r=s.rem):=by
    have h3:=HRR.out
    by_cases hw:s.why=0
    ·rw [if_pos hw] at h3;exact ⟨hw,h3⟩
    ·rw [if_neg hw] at h3;subst h3;simp at hqr;omega
   clear hslh
   go_wp2_with fail
   go_ret
   obtain ⟨hw,hrr⟩:=HW.out
   have e:Co.raw (q:Int) s=(r.take q,⟨r.drop q,s.why⟩):=by
    unfold Co.raw
    rw [if_neg (by simp [hw];omega),if_neg (by rw [← hrr];omega),← hrr]
    rfl
   have hcb:∀ b,(cutA X q cap).map (·.block)=some b→X.map (·.block)=some b:=fun b hb=>by
    unfold cutA at hb
    split at hb
    ·exact hb
    ·cases X with
     | none=>exact hb
     | some a=>simp only [Option.map_some,block_of_add] at hb;exact hb
   have hk:Keeps w (w.setCell ⟨g,0,none⟩ (.slice (cutA X q cap) (r.length-q) (cap-q))) g:=(Keeps.refl _ _).setCell _ _
   have hne:X.map (·.block)≠some g:=fun e=>(H.out.off g e).1 rfl
   have hl1:(r.take q).length=q:=by rw [List.length_take];omega
   have hl2:(r.drop q).length=r.length-q:=List.length_drop
   refine ⟨X,r.take q,cap,cutA X q cap,r.drop q,cap-q,by rw [hl1];rfl,by rw [e],by omega,(H.out.rd.take q).keeps hk (fun _=>hne),?_,by rw [e];simp [hw],hcb,fun b _ h=>h,hk⟩
   rw [e]
   refine ⟨?_,by omega,by omega,(H.out.rd.cut q cap hfit).keeps hk (fun _ e=>hne (hcb g e)),fun b hb=>?_⟩
   ·rw [hl2];exact H.out.blk.set_ 0 _
   ·have:=H.out.off b (hcb b hb)
    exact ⟨this.1,Nat.lt_of_lt_of_le this.2 hk.size⟩
def RrNext (g:Nat) (X:Option Addr) (s':Co.Rs) (w w':World):Prop :=
 ∃ X2 c2 r2,RrIn g X2 c2 r2 s'.why w'∧r2=(if s'.why=0 then s'.rem else [])∧(∀ b,X2.map (·.block)=some b→X.map (·.block)=some b)∧Keeps w w' g
theorem RrNext.below {g:Nat} {X:Option Addr} {s':Co.Rs} {w w' w2:World} (h:RrNext g X s' w w') (hb:Below w'.heap.size w' w2):RrNext g X s' w w2:=by
 obtain ⟨X2,c2,r2,h1,h2,h3,h4⟩:=h
 exact ⟨X2,c2,r2,⟨h1.blk.below hb h1.blk.lt,h1.fits,h1.small,h1.rd.below hb,fun b h=>⟨(h1.off b h).1,Nat.lt_of_lt_of_le (h1.off b h).2 hb.size⟩⟩,h2,h3,h4.trans (Keeps.of_below hb)⟩
theorem RrNext.then {g:Nat} {X X2:Option Addr} {s':Co.Rs} {w w' w2:World} (h4:Keeps w w' g) (h3:∀ b,X2.map (·.block)=some b→X.map (·.block)=some b) (h:RrNext g X2 s' w' w2):RrNext g X s' w w2:=by
 obtain ⟨X3,c3,r3,k1,k2,k3,k4⟩:=h
 exact ⟨X3,c3,r3,k1,k2,fun b hb=>h3 b (k3 b hb),h4.trans k4⟩
theorem raw_len (n:Int) (s:Co.Rs):(Co.raw n s).1.length≤s.rem.length:=by
 unfold Co.raw
 split
 ·simp
 ·split
  ·simp
  ·show (s.rem.take _).length≤_
   rw [List.length_take];omega
set_option maxHeartbeats 1000000 in
set_option maxRecDepth 100000 in
theorem rnumber_any {g:Nat} {X:Option Addr} {cap:Nat} {r:List UInt8} {s:Co.Rs} {w:World} (h:RrIn g X cap r s.why w) (hr:r=if s.why=0 then s.rem else []) (n:Int) (hn:n≤140737488355328) (hn0:-140737488355328≤n) :
    Calls Tryz.prog 133 #[.pointer (some ⟨g,0,none⟩),.int .i64 n] w fun e w'=>e=.returned (.int .u64 ((Co.num n s).1:Nat))∧RrNext g X (Co.num n s).2 w w':=by
 have H:=Lib.hid h
 have HR:=Lib.hid hr
 clear h hr
 go_enter Tryz.func133,Tryz.ntmps133
 go_wp2_with fail
 refine (take_any H.out HR.out n hn hn0).mono ?_
 rintro e w1 ⟨X1,l,c1,X2,r2,c2,rfl,hl,hlc,hrd,hin,hr2,hX2,hX1,hk⟩
 have HL:=Lib.hid hl
 have HRD:=Lib.hid hrd
 have HN:Hid (RrNext g X (Co.num n s).2 w w1):=⟨X2,c2,r2,hin,hr2,hX2,hk⟩
 have hsm:l.length≤140737488355328:=by
  rw [hl]
  by_cases hw:s.why=0
  ·have e:=HR.out
   rw [if_pos hw] at e
   have h5:=raw_len n s
   have h6:=H.out.small
   rw [← e] at h5
   omega
  ·unfold Co.raw
   rw [if_pos (.inl hw)]
   simp
 clear hl hrd hin hr2 hX2 hX1 hk hlc H HR
 go_wp2_with fail
 go_loop [5,12] (fun t5 t12=>∃ (k x:Nat),k≤l.length∧t12=.int .i64 (k:Nat)∧t5=.int .u64 (x:Nat)∧Hid (x=Co.beVal (l.take k))) (fun _ t12=>l.length-(intOf t12).toNat)
 case atStart=>exact ⟨0,0,by omega,rfl,rfl,rfl⟩
 case round =>
  obtain ⟨k,x,hk,rfl,rfl,HX⟩:=hrel
  by_cases hlt:k<l.length
  ·obtain ⟨b,off,rfl,_,hcell⟩:=HRD.out.at_ (by omega)
   have c0:=hcell k hlt
   obtain ⟨y,hy⟩:∃ y:Nat,y=(l.getD k 0).toNat:=⟨_,rfl⟩
   have hy8:y<256:=by rw [hy];exact (l.getD k 0).toNat_lt
   rw [← hy] at c0
   have HY:=Lib.hid hy
   have hor:=Co.bits_or64 x y hy8
   obtain ⟨z,hz⟩:∃ z:Nat,z=(x*256+y) % 18446744073709551616:=⟨_,rfl⟩
   rw [← hz] at hor
   have HZ:=Lib.hid hz
   clear hcell hy hz
   go_wp2_with fail
   go_round
   case rel=>exact ⟨k+1,z,by omega,by go_num,rfl,by show _=_;rw [Co.beVal_snoc _ _ hlt,← HX.out,← HY.out,HZ.out]⟩
   case measure=>simp [intOf];omega
  ·obtain rfl:k=l.length:=by omega
   have HF:Hid (x=Co.beVal l):=by show _=_;rw [HX.out,List.take_length]
   clear HX
   go_wp2_with fail
   go_ret
   refine ⟨?_,HN.out⟩
   rw [HF.out,HL.out]
   rfl
theorem num_why (n:Int) (s:Co.Rs) (h:s.why≤1000):(Co.num n s).2.why≤1000:=by
 unfold Co.num Co.raw
 split
 ·exact h
 ·split
  ·show 10≤1000;omega
  ·exact h
theorem RrNext.out {g:Nat} {X:Option Addr} {A:Option Addr} {L:List UInt8} {x:Value} {s':Co.Rs} {w w':World} (h:RrNext g X s' w w') (hs:s'.why≤1000):ROut (fun v _ _ s S w=>RrAt v s S w) (.pointer (some ⟨g,0,none⟩)) A L x s' (RrS g X) w (.returned x) w':=by
 obtain ⟨X2,c2,r2,h1,h2,h3,h4⟩:=h
 refine ⟨rfl,RrS g X2,⟨g,X2,c2,r2,rfl,h1,h2,hs,rfl⟩,⟨h4.os,h4.tape,h4.output,h4.size,fun k hk hn=>h4.block k hk fun e=>hn (.inl (by injection e))⟩,fun b hb=>?_⟩
 rcases hb with h|h
 ·exact .inl (.inl h)
 ·exact .inl (.inr (h3 b h))
set_option maxHeartbeats 1000000 in
theorem rbyte_any {g:Nat} {X:Option Addr} {cap:Nat} {r:List UInt8} {s:Co.Rs} {w:World} (h:RrIn g X cap r s.why w) (hr:r=if s.why=0 then s.rem else []) :
    Calls Tryz.prog 137 #[.pointer (some ⟨g,0,none⟩)] w fun e w'=>e=.returned (.int .i64 ((Co.num 1 s).1:Nat))∧RrNext g X (Co.num 1 s).2 w w':=by
 have H:=Lib.hid h
 have HR:=Lib.hid hr
 have hs:=num_small1 s
 clear h hr
 go_enter Tryz.func137,Tryz.ntmps137
 go_wp2_with fail
 refine (rnumber_any H.out HR.out 1 (by omega) (by omega)).mono ?_
 rintro e w1 ⟨rfl,hn⟩
 have HN:=Lib.hid hn
 obtain ⟨x,hx⟩:∃ x,x=(Co.num 1 s).1:=⟨_,rfl⟩
 rw [← hx] at hs ⊢
 have HX:=Lib.hid hx
 clear hn hx
 have hw:IntKind.i64.wrap (x:Int)=(x:Int):=IntWalk.i64_in _ (by omega)
 go_wp2_with fail
 go_ret
 exact ⟨by rw [← HX.out];rfl,HN.out⟩
set_option maxHeartbeats 1000000 in
theorem rshort_any {g:Nat} {X:Option Addr} {cap:Nat} {r:List UInt8} {s:Co.Rs} {w:World} (h:RrIn g X cap r s.why w) (hr:r=if s.why=0 then s.rem else []) :
    Calls Tryz.prog 118 #[.pointer (some ⟨g,0,none⟩)] w fun e w'=>e=.returned (.int .i64 ((Co.num 2 s).1:Nat))∧RrNext g X (Co.num 2 s).2 w w':=by
 have H:=Lib.hid h
 have HR:=Lib.hid hr
 have hs:=num_small2 s
 clear h hr
 go_enter Tryz.func118,Tryz.ntmps118
 go_wp2_with fail
 refine (rnumber_any H.out HR.out 2 (by omega) (by omega)).mono ?_
 rintro e w1 ⟨rfl,hn⟩
 have HN:=Lib.hid hn
 obtain ⟨x,hx⟩:∃ x,x=(Co.num 2 s).1:=⟨_,rfl⟩
 rw [← hx] at hs ⊢
 have HX:=Lib.hid hx
 clear hn hx
 have hw:IntKind.i64.wrap (x:Int)=(x:Int):=IntWalk.i64_in _ (by omega)
 go_wp2_with fail
 go_ret
 exact ⟨by rw [← HX.out];rfl,HN.out⟩
set_option maxHeartbeats 1000000 in
theorem rlong_any {g:Nat} {X:Option Addr} {cap:Nat} {r:List UInt8} {s:Co.Rs} {w:World} (h:RrIn g X cap r s.why w) (hr:r=if s.why=0 then s.rem else []) :
    Calls Tryz.prog 77 #[.pointer (some ⟨g,0,none⟩)] w fun e w'=>e=.returned (.int .u64 ((Co.num 8 s).1:Nat))∧RrNext g X (Co.num 8 s).2 w w':=by
 have H:=Lib.hid h
 have HR:=Lib.hid hr
 clear h hr
 go_enter Tryz.func77,Tryz.ntmps77
 go_wp2_with fail
 refine (rnumber_any H.out HR.out 8 (by omega) (by omega)).mono ?_
 rintro e w1 ⟨rfl,hn⟩
 have HN:=Lib.hid hn
 obtain ⟨x,hx⟩:∃ x,x=(Co.num 8 s).1:=⟨_,rfl⟩
 rw [← hx] at ⊢
 have HX:=Lib.hid hx
 clear hn hx
 go_wp2_with fail
 go_ret
 exact ⟨by rw [← HX.out];rfl,HN.out⟩
set_option maxHeartbeats 1000000 in
theorem rflag_any {g:Nat} {X:Option Addr} {cap:Nat} {r:List UInt8} {s:Co.Rs} {w:World} (h:RrIn g X cap r s.why w) (hr:r=if s.why=0 then s.rem else []) :
    Calls Tryz.prog 190 #[.pointer (some ⟨g,0,none⟩)] w fun e w'=>e=.returned (.bool (Co.flag s).1)∧RrNext g X (Co.flag s).2 w w':=by
 have H:=Lib.hid h
 have HR:=Lib.hid hr
 have hs:=num_small1 s
 clear h hr
 go_enter Tryz.func190,Tryz.ntmps190
 go_wp2_with fail
 refine (rbyte_any H.out HR.out).mono ?_
 rintro e w1 ⟨rfl,hn⟩
 have HN:=Lib.hid hn
 have HWW:Hid (1<(Co.num 1 s).1→(Co.num 1 s).2.why=0):=by
  show _→_
  intro h1
  unfold Co.num Co.raw at h1 ⊢
  split
  ·rename_i hc
   rw [if_pos hc] at h1
   simp [Co.beVal] at h1
  ·rename_i hc
   rw [if_neg hc] at h1
   split
   ·rename_i hd
    rw [if_pos hd] at h1
    simp [Co.beVal] at h1
   ·show s.why=0
    exact Decidable.byContradiction fun h=>hc (.inl h)
 obtain ⟨x,hx⟩:∃ x,x=(Co.num 1 s).1:=⟨_,rfl⟩
 rw [← hx] at hs ⊢
 have HX:=Lib.hid hx
 clear hn hx
 by_cases h1:1<x
 ·have h2:(1:Int)<(x:Int):=by omega
  have HH1:=Lib.hid h1
  clear h1
  obtain ⟨X2,c2,r2,hin,hr2,hX2,hk⟩:=HN.out
  have HI:=Lib.hid hin
  have HK:=Lib.hid hk
  have HX2:=Lib.hid hX2
  clear hin hr2 hX2 hk
  go_wp2_with fail
  refine (refuse_any HI.out 12 (by omega)).mono ?_
  rintro e w2 ⟨rfl,hin,hk⟩
  have HF:Hid (RrNext g X (Co.flag s).2 w w2):=by
   have h1:=HH1.out
   rw [HX.out] at h1
   have e:(Co.flag s).2.why=12:=by unfold Co.flag;rw [if_pos h1]
   refine ⟨none,0,[],?_,by rw [e];simp,fun b h=>(by cases h),HK.out.trans hk⟩
   rw [e]
   rw [if_pos (HWW.out h1)] at hin
   exact hin
  clear hin hk
  go_wp2_with fail
  go_ret
  refine ⟨?_,HF.out⟩
  have h1:=HH1.out
  rw [HX.out] at h1
  have:(Co.flag s).1=false:=by unfold Co.flag;simp;omega
  rw [this]
  rfl
 ·have h2:¬ (1:Int)<(x:Int):=by omega
  have HH1:=Lib.hid h1
  clear h1
  go_wp2_with fail
  go_ret
  have h1:=HH1.out
  rw [HX.out] at h1
  refine ⟨?_,?_⟩
  ·show Ending.returned (.bool ((x:Int)==1))=Ending.returned (.bool (decide ((Co.num 1 s).1=1)))
   rw [← HX.out,one_eq]
  ·unfold Co.flag
   rw [if_neg h1]
   exact HN.out
def RrRow (g:Nat) (X:Option Addr) (p:List UInt8 × Co.Rs) (w:World) (e:Ending) (w':World):Prop :=
 ∃ v,e=.returned v∧w'.ownsRow w.heap.size 5 1 v p.1.length (Lib.byteCells p.1)∧RrNext g X p.2 w w'
set_option maxHeartbeats 1000000 in
theorem rraw_any {g:Nat} {X:Option Addr} {cap:Nat} {r:List UInt8} {s:Co.Rs} {w:World} (h:RrIn g X cap r s.why w) (hr:r=if s.why=0 then s.rem else []) (n:Int) (hn:n≤140737488355328) (hn0:-140737488355328≤n) :
    Calls Tryz.prog 80 #[.pointer (some ⟨g,0,none⟩),.int .i64 n] w (RrRow g X (Co.raw n s) w):=by
 have H:=Lib.hid h
 have HR:=Lib.hid hr
 clear h hr
 go_enter Tryz.func80,Tryz.ntmps80
 go_wp2_with fail
 refine (take_any H.out HR.out n hn hn0).mono ?_
 rintro e w1 ⟨X1,l,c1,X2,r2,c2,rfl,hl,hlc,hrd,hin,hr2,hX2,hX1,hk⟩
 have HL:=Lib.hid hl
 have HRD:=Lib.hid hrd
 have HN:Hid (RrNext g X (Co.raw n s).2 w w1):=⟨X2,c2,r2,hin,hr2,hX2,hk⟩
 have HS:=Lib.hid hk.size
 have hsm:l.length≤140737488355328:=by
  rw [hl]
  by_cases hw:s.why=0
  ·have e:=HR.out
   rw [if_pos hw] at e
   have h5:=raw_len n s
   have h6:=H.out.small
   rw [← e] at h5
   omega
  ·unfold Co.raw
   rw [if_pos (.inl hw)]
   simp
 clear hl hrd hin hr2 hX2 hX1 hk hlc H HR
 go_wp2_with fail
 refine (clone_any w1 X1 l c1 HRD.out (by omega)).mono ?_
 rintro e w2 ⟨v,rfl,hown,hb⟩
 have HF:Hid (RrRow g X (Co.raw n s) w (.returned v) w2):=⟨v,rfl,by rw [← HL.out];exact own_mono hown HS.out,HN.out.below hb⟩
 clear hown hb
 go_wp2_with fail
 go_ret
 exact HF.out
set_option maxHeartbeats 1000000 in
theorem rbytes_any {g:Nat} {X:Option Addr} {cap:Nat} {r:List UInt8} {s:Co.Rs} {w:World} (h:RrIn g X cap r s.why w) (hr:r=if s.why=0 then s.rem else []) :
    Calls Tryz.prog 135 #[.pointer (some ⟨g,0,none⟩)] w (RrRow g X (Co.bytes s) w):=by
 have H:=Lib.hid h
 have HR:=Lib.hid hr
 have hs:=num_small2 s
 clear h hr
 go_enter Tryz.func135,Tryz.ntmps135
 go_wp2_with fail
 refine (rshort_any H.out HR.out).mono ?_
 rintro e w1 ⟨rfl,hn⟩
 obtain ⟨X2,c2,r2,hin,hr2,hX2,hk⟩:=hn
 have HI:=Lib.hid hin
 have HR2:=Lib.hid hr2
 have HK:=Lib.hid hk
 have HX2:=Lib.hid hX2
 obtain ⟨x,hx⟩:∃ x,x=(Co.num 2 s).1:=⟨_,rfl⟩
 rw [← hx] at hs ⊢
 have HX:=Lib.hid hx
 clear hin hr2 hX2 hk hx H HR
 go_wp2_with fail
 refine (rraw_any HI.out HR2.out (x:Int) (by omega) (by omega)).mono ?_
 rintro e w2 ⟨v,rfl,hown,hn⟩
 have HF:Hid (RrRow g X (Co.bytes s) w (.returned v) w2):=by
  refine ⟨v,rfl,?_,?_⟩
  ·have:=own_mono hown HK.out.size
   rw [HX.out] at this
   exact this
  ·have:=RrNext.then HK.out HX2.out hn
   rw [HX.out] at this
   exact this
 clear hown hn
 go_wp2_with fail
 go_ret
 exact HF.out
theorem raw_why (n:Int) (s:Co.Rs) (h:s.why≤1000):(Co.raw n s).2.why≤1000:=num_why n s h
theorem flag_why (s:Co.Rs) (h:s.why≤1000):(Co.flag s).2.why≤1000:=by
 have:=num_why 1 s h
 unfold Co.flag
 split
 ·show 12≤1000;omega
 ·exact this
theorem bytes_why (s:Co.Rs) (h:s.why≤1000):(Co.bytes s).2.why≤1000:=raw_why _ _ (num_why 2 s h)
theorem RrRow.out {g:Nat} {X:Option Addr} {A:Option Addr} {L:List UInt8} {p:List UInt8 × Co.Rs} {w:World} {e:Ending} {w':World} (h:RrRow g X p w e w') (hs:p.2.why≤1000):RRow (fun v _ _ s S w=>RrAt v s S w) (.pointer (some ⟨g,0,none⟩)) A L p (RrS g X) w e w':=by
 obtain ⟨v,rfl,hown,hn⟩:=h
 obtain ⟨Y,c,rfl,hc,hrow,hlt⟩:=RowS.of_own A L hown rfl
 obtain ⟨_,S',h1,h2,h3⟩:=RrNext.out (A:=A) (L:=L) (x:=.slice Y p.1.length c) hn hs
 exact ⟨Y,c,S',_,rfl,hc,hrow,h1,h2,h3,fun b hb=>⟨.inr (hlt b hb).1,(hlt b hb).2⟩⟩
set_option maxHeartbeats 1000000 in
theorem rleft_any {g:Nat} {X:Option Addr} {cap:Nat} {r:List UInt8} {s:Co.Rs} {w:World} (h:RrIn g X cap r s.why w) (hr:r=if s.why=0 then s.rem else []) :
    Calls Tryz.prog 79 #[.pointer (some ⟨g,0,none⟩)] w fun e w'=>e=.returned (.int .i64 (Co.left s:Nat))∧Below w.heap.size w w':=by
 have c0:w.cell? ⟨g,0,none⟩=some (.slice X r.length cap):=h.blk.cell 0
 have HL:Hid (Co.left s=r.length):=by
  show _=_
  rw [hr]
  unfold Co.left
  by_cases hw:s.why=0
  ·simp [hw]
  ·simp [hw]
 clear h hr
 go_enter Tryz.func79,Tryz.ntmps79
 go_wp2_with fail
 go_ret
 exact ⟨by rw [HL.out];rfl,Below.refl _ _⟩
set_option maxHeartbeats 1000000 in
theorem rend_any {g:Nat} {X:Option Addr} {cap:Nat} {r:List UInt8} {s:Co.Rs} {w:World} (h:RrIn g X cap r s.why w) (hr:r=if s.why=0 then s.rem else []) :
    Calls Tryz.prog 120 #[.pointer (some ⟨g,0,none⟩)] w fun e w'=>e=.returned (.int .i64 (Co.fin s:Nat))∧Below w.heap.size w w':=by
 have c0:w.cell? ⟨g,0,none⟩=some (.slice X r.length cap):=h.blk.cell 0
 have c1:w.cell? ⟨g,1,none⟩=some (.int .i64 (s.why:Nat)):=h.blk.cell 1
 obtain ⟨rem,why⟩:=s
 simp only at c1 hr
 clear h
 by_cases h1:why=0
 ·subst h1
  rw [if_pos rfl] at hr
  subst hr
  by_cases h2:0<r.length
  ·have HF:Hid (Co.fin ⟨r,0⟩=11):=by show _=_;unfold Co.fin;simp [h2]
   have h3:(0:Int)<(r.length:Int):=by omega
   go_enter Tryz.func120,Tryz.ntmps120
   go_wp2_with fail
   go_ret
   exact ⟨by rw [HF.out];rfl,Below.refl _ _⟩
  ·have HF:Hid (Co.fin ⟨r,0⟩=0):=by show _=_;unfold Co.fin;simp [h2]
   go_enter Tryz.func120,Tryz.ntmps120
   go_wp2_with fail
   go_ret
   exact ⟨by rw [HF.out];rfl,Below.refl _ _⟩
 ·have hw:((why:Nat):Int)≠0:=by omega
  have HF:Hid (Co.fin ⟨rem,why⟩=why):=by show _=_;unfold Co.fin;simp [h1]
  go_enter Tryz.func120,Tryz.ntmps120
  go_wp2_with fail
  go_ret
  exact ⟨by rw [HF.out];rfl,Below.refl _ _⟩
set_option maxHeartbeats 1000000 in
theorem rnew_any (w:World) (A:Option Addr) (L:List UInt8) (cap:Nat) (hr:Rd w A L) (hl:L.length≤140737488351232):Calls Tryz.prog 76 #[.slice A L.length cap] w fun e w'=>∃ v S,e=.returned v∧RrAt v ⟨L,0⟩ S w'∧Below w.heap.size w w'∧∀ b,S b→w.heap.size≤b:=by
 have HR:=Lib.hid hr
 clear hr
 go_enter Tryz.func76,Tryz.ntmps76
 go_wp2_with fail
 refine (clone_any w A L cap HR.out (by omega)).mono ?_
 rintro e w1 ⟨v,rfl,hown,hb⟩
 have ho:∀ b,v.ownBlock=some b→w.heap.size≤b∧b<w1.heap.size:=fun b h=>own_lt hown h
 obtain ⟨X,c,rfl,hc,hrd⟩:=own_form hown
 have hX:∀ b,X.map (·.block)=some b→w.heap.size≤b∧b<w1.heap.size:=fun b h=>ho b (by cases X with|none=>cases h|some a=>simpa [Value.ownBlock] using h)
 have HF:Hid (RrAt (.pointer (some ⟨w1.heap.size,0,none⟩)) ⟨L,0⟩ (RrS w1.heap.size X) (w1.alloc (.cells #[.slice X L.length c,.int .i64 0] 183))∧Below w.heap.size w (w1.alloc (.cells #[.slice X L.length c,.int .i64 0] 183))∧∀ b,RrS w1.heap.size X b→w.heap.size≤b):=by
  refine ⟨⟨_,X,c,L,rfl,⟨Blk.new w1 _ _,hc,by omega,hrd.below (below_new _ _),fun b h=>?_⟩,rfl,by show 0≤1000;omega,rfl⟩,hb.trans ((below_new w1 _).mono hb.size),fun b h=>?_⟩
  ·have:=hX b h
   rw [World.size_alloc]
   omega
  ·rcases h with rfl|h
   ·exact hb.size
   ·exact (hX b h).1
 clear hown hb ho hc hrd hX
 go_wp2_with fail
 go_ret
 exact ⟨_,_,rfl,HF.out⟩
theorem RrAt.keep {v:Value} {s:Co.Rs} {S:Nat→Prop} {w w':World} (h:RrAt v s S w) (hs:w.heap.size≤w'.heap.size) (hb:∀ b,S b→w'.heap[b]?=w.heap[b]?):RrAt v s S w':=by
 obtain ⟨g,X,cap,r,rfl,h1,h2,h3,rfl⟩:=h
 refine ⟨g,X,cap,r,rfl,⟨(hb g (.inl rfl)).trans h1.blk,h1.fits,h1.small,h1.rd.keep (fun p hp e=>?_) hs,fun b h=>⟨(h1.off b h).1,Nat.lt_of_lt_of_le (h1.off b h).2 hs⟩⟩,h2,h3,rfl⟩
 unfold World.cell?
 rw [hb p.block (.inr e)]
theorem RrAt.lt {v:Value} {s:Co.Rs} {S:Nat→Prop} {w:World} (h:RrAt v s S w):∀ b,S b→b<w.heap.size:=by
 obtain ⟨g,X,cap,r,rfl,h1,h2,h3,rfl⟩:=h
 rintro b (rfl|hb)
 ·exact h1.blk.lt
 ·exact (h1.off b hb).2
def rsaid:RSaid codecFns where
 At:=fun v _ _ s S w=>RrAt v s S w
 keep:=fun h hs hb=>h.keep hs hb
 lt:=fun h=>h.lt
 ptr:=fun h=>by obtain ⟨g,X,cap,r,rfl,_⟩:=h;exact ⟨_,rfl⟩
 byte:=fun hf _ _ _ _ _ _ h _ _=>by cases hf;obtain ⟨g,X,cap,r,rfl,h1,h2,h3,rfl⟩:=h;exact (rbyte_any h1 h2).mono fun e w' ⟨he,hn⟩=>by subst he;exact hn.out (num_why _ _ h3)
 short:=fun hf _ _ _ _ _ _ h _ _=>by cases hf;obtain ⟨g,X,cap,r,rfl,h1,h2,h3,rfl⟩:=h;exact (rshort_any h1 h2).mono fun e w' ⟨he,hn⟩=>by subst he;exact hn.out (num_why _ _ h3)
 long:=fun hf _ _ _ _ _ _ h _ _=>by cases hf;obtain ⟨g,X,cap,r,rfl,h1,h2,h3,rfl⟩:=h;exact (rlong_any h1 h2).mono fun e w' ⟨he,hn⟩=>by subst he;exact hn.out (num_why _ _ h3)
 flag:=fun hf _ _ _ _ _ _ h _ _=>by cases hf;obtain ⟨g,X,cap,r,rfl,h1,h2,h3,rfl⟩:=h;exact (rflag_any h1 h2).mono fun e w' ⟨he,hn⟩=>by subst he;exact hn.out (flag_why _ h3)
 bytes:=fun hf _ _ _ _ _ _ h _ _=>by cases hf;obtain ⟨g,X,cap,r,rfl,h1,h2,h3,rfl⟩:=h;exact (rbytes_any h1 h2).mono fun e w' ho=>ho.out (bytes_why _ h3)
 raw:=fun hf _ _ _ _ _ _ h _ _ n h0 hn=>by cases hf;obtain ⟨g,X,cap,r,rfl,h1,h2,h3,rfl⟩:=h;exact (rraw_any h1 h2 n (by omega) (by omega)).mono fun e w' ho=>ho.out (raw_why _ _ h3)
 left:=fun hf _ _ _ _ _ _ h _ _=>by cases hf;obtain ⟨g,X,cap,r,rfl,h1,h2,h3,rfl⟩:=h;exact rleft_any h1 h2
 fin:=fun hf _ _ _ _ _ _ h _ _=>by cases hf;obtain ⟨g,X,cap,r,rfl,h1,h2,h3,rfl⟩:=h;exact rend_any h1 h2
theorem rmake:RMake rsaid:=⟨fun w A L cap hr _ hl=>rnew_any w A L cap hr hl⟩
end Go.Proofs.YtbnpgakmhhfjkaaGreatDoor
namespace Go.Proofs.YtbnpgakmhhfjkaaGreatDoor
open Go.RowKit Rc
namespace Ts
def Rr (g:Nat) (XB:Option Nat) (s:Co.Rs) (w:World):Prop:=∃ X cap r,RrIn g X cap r s.why w∧r=(if s.why=0 then s.rem else [])∧s.why≤1000∧∀ b,X.map (·.block)=some b→XB=some b
variable {g:Nat} {XB:Option Nat} {s s':Co.Rs} {w w':World}
theorem Rr.lt (h:Rr g XB s w):g<w.heap.size:=by obtain ⟨X,cap,r,h1,_⟩:=h;exact h1.blk.lt
theorem Rr.keep (h:Rr g XB s w) (hs:w.heap.size≤w'.heap.size) (hg:w'.heap[g]?=w.heap[g]?) (hb:∀ b,XB=some b→w'.heap[b]?=w.heap[b]?):Rr g XB s w':=by
 obtain ⟨X,cap,r,h1,h2,h3,h4⟩:=h
 refine ⟨X,cap,r,⟨hg.trans h1.blk,h1.fits,h1.small,h1.rd.keep (fun p hp e=>?_) hs,fun b hb2=>⟨(h1.off b hb2).1,Nat.lt_of_lt_of_le (h1.off b hb2).2 hs⟩⟩,h2,h3,h4⟩
 unfold World.cell?
 rw [hb p.block (h4 _ e)]
theorem Rr.below (h:Rr g XB s w) (hx:∀ b,XB=some b→b<w.heap.size) (hb:Below w.heap.size w w'):Rr g XB s w':=h.keep hb.size (hb.block g h.lt) fun b hb2=>hb.block b (hx b hb2)
theorem Rr.next {X:Option Addr} (hX:∀ b,X.map (·.block)=some b→XB=some b) (h:RrNext g X s' w w') (hw:s'.why≤1000):Rr g XB s' w'∧Keeps w w' g:=by
 obtain ⟨X2,c2,r2,h1,h2,h3,h4⟩:=h
 exact ⟨⟨X2,c2,r2,h1,h2,hw,fun b hb=>hX b (h3 b hb)⟩,h4⟩
theorem short_rd (h:Rr g XB s w):Calls Tryz.prog 118 #[.pointer (some ⟨g,0,none⟩)] w fun e w'=>e=.returned (.int .i64 ((Co.num 2 s).1:Nat))∧Hid (Rr g XB (Co.num 2 s).2 w')∧Hid (Keeps w w' g):=by
 obtain ⟨X,cap,r,h1,h2,h3,h4⟩:=h
 refine (rshort_any h1 h2).mono ?_
 rintro e w' ⟨he,hn⟩
 obtain ⟨k1,k2⟩:=Rr.next h4 hn (num_why _ _ h3)
 exact ⟨he,k1,k2⟩
theorem bytes_rd (h:Rr g XB s w):Calls Tryz.prog 135 #[.pointer (some ⟨g,0,none⟩)] w fun e w'=>∃ X c,e=.returned (.slice X (List.length (Co.bytes s).1) c)∧Hid ((Co.bytes s).1.length≤c∧Rd w' X (Co.bytes s).1)∧Hid (w'.ownsRow w.heap.size 5 1 (.slice X (Co.bytes s).1.length c) (Co.bytes s).1.length (Lib.byteCells (Co.bytes s).1))∧Hid (Rr g XB (Co.bytes s).2 w')∧Hid (Keeps w w' g):=by
 obtain ⟨X,cap,r,h1,h2,h3,h4⟩:=h
 refine (rbytes_any h1 h2).mono ?_
 rintro e w' ⟨v,he,ho,hn⟩
 obtain ⟨k1,k2⟩:=Rr.next h4 hn (bytes_why _ h3)
 obtain ⟨Y,c,rfl,hc,hr⟩:=own_form ho
 exact ⟨Y,c,he,⟨hc,hr⟩,ho,k1,k2⟩
theorem end_rd (h:Rr g XB s w):Calls Tryz.prog 120 #[.pointer (some ⟨g,0,none⟩)] w fun e w'=>e=.returned (.int .i64 (Co.fin s:Nat))∧Below w.heap.size w w':=by
 obtain ⟨X,cap,r,h1,h2,h3,h4⟩:=h
 exact rend_any h1 h2
end Ts
end Go.Proofs.YtbnpgakmhhfjkaaGreatDoor
namespace Go.Proofs.YtbnpgakmhhfjkaaGreatDoor
open Go.RowKit Rc
open Tr (Nm En T)
namespace Rf
def idx (t:T) (i:Int):Int:=match t.findIdx? (fun e=>e.nd.id==i) with|some k=>(k:Int)|none=>-1
end Rf
end Go.Proofs.YtbnpgakmhhfjkaaGreatDoor
namespace Go.Proofs.YtbnpgakmhhfjkaaGreatDoor
open Go.RowKit Rc
open Tr (Nm En T)
namespace Rf
variable {p:Nat} {nv dv ev:Value} {D:Nat→Prop} {t:T} {w:World}
end Rf
end Go.Proofs.YtbnpgakmhhfjkaaGreatDoor
namespace Go.Proofs.YtbnpgakmhhfjkaaGreatDoor
open Go.RowKit Rc
open Tr (Nm En T)
namespace Rf
variable {p:Nat} {nv dv ev:Value} {D:Nat→Prop} {t:T} {w:World}
end Rf
end Go.Proofs.YtbnpgakmhhfjkaaGreatDoor
namespace Go.Proofs.YtbnpgakmhhfjkaaGreatDoor
open Go.RowKit
open Tr (Nm En T)
namespace Rf
end Rf
end Go.Proofs.YtbnpgakmhhfjkaaGreatDoor
namespace Go.Proofs.YtbnpgakmhhfjkaaGreatDoor
open Go.RowKit Rc
open Tr (Nm En T)
namespace Rf
structure RowTy (ty e:TypeId) (k:Nat) (z:Value) (b:Nat):Prop where
 under:Tryz.prog.underlying ty=some (.slice e)
 elem:Tryz.prog.elem ty=e
 info:(Tryz.prog.info? e).map (fun i=>(i.zero,i.size,i.bytes))=some (some z,k,b)
 cells:z.cells.size=k
 pos:0<k
 few:b≤100
theorem RowTy.parts {ty e:TypeId} {k:Nat} {z:Value} {b:Nat} (R:RowTy ty e k z b):∃ i,Tryz.prog.info? e=some i∧i.zero=some z∧i.size=k∧i.bytes=b:=by
 have h:=R.info
 simp only [Option.map_eq_some_iff,Prod.mk.injEq] at h
 obtain ⟨i0,h1,h2,h3,h4⟩:=h
 exact ⟨i0,h1,h2,h3,h4⟩
def Src (w:World) (A:Option Addr) (ys:List Value):Prop:=0<ys.length→∃ a,A=some a∧∀ j u,ys[j]?=some u→w.cell? (a.add j)=some u
def cutR (A:Option Addr) (k s cap:Nat):Option Addr:=if cap=k then A else A.map (·.add (k*s))
section
variable {ty e:TypeId} {k:Nat} {z:Value} {by_:Nat}
theorem own_src {w:World} {B n:Nat} {v:Value} {xs:List Value} (h:w.ownsRow B e k v n xs):∃ A c,v=.slice A n c∧n≤c∧Src w A xs∧∀ b,A.map (·.block)=some b→v.ownBlock=some b:=by
 obtain ⟨A,c,h1,h2,h3⟩:=Tm.own_form h
 rcases h.2 with ⟨rfl,h0⟩|⟨g,cap,cur,rfl,_⟩
 ·refine ⟨none,0,by rw [h0],by omega,fun hl=>?_,fun b hb=>by cases hb⟩
  have:=h.1
  rw [h0,Nat.zero_mul] at this
  omega
 ·refine ⟨_,cap,rfl,?_,fun hl=>⟨_,rfl,fun j u hj=>?_⟩,fun b hb=>?_⟩
  ·injection h1 with e1 e2 e3
   omega
  ·have hn:0<n:=by
    rcases Nat.eq_zero_or_pos n with h0|h0
    ·have:=h.1
     rw [h0,Nat.zero_mul] at this
     omega
    ·exact h0
   obtain ⟨g',h4,_,_,_,h5⟩:=h3 hn
   injection h1 with e1 e2 e3
   rw [h4] at e1
   injection e1 with e1
   injection e1 with e1
   subst e1
   rw [add_plain,Nat.zero_add]
   exact h5 j u hj
  ·simpa [Value.ownBlock] using hb
theorem Src.tail {w:World} {b0:Nat} {xs:List Value} (h:Src w (some ⟨b0,0,none⟩) xs) (m s cap n:Nat) (hx:xs.length=n*s) (hn:n≤cap):Src w (cutR (some ⟨b0,0,none⟩) m s cap) (xs.drop (m*s)):=fun hl=>by
 rw [List.length_drop,hx] at hl
 have hm:m<n:=by
  rcases Nat.lt_or_ge m n with h1|h1
  ·exact h1
  ·have:=Nat.mul_le_mul_right s h1
   omega
 obtain ⟨a,ha,hc⟩:=h (by rw [hx];omega)
 injection ha with ha
 subst ha
 unfold cutR
 rw [if_neg (by omega)]
 refine ⟨_,rfl,fun j u hj=>?_⟩
 rw [List.getElem?_drop] at hj
 have:=hc _ _ hj
 rw [add_plain,Nat.zero_add] at this
 show w.cell? (((⟨b0,0,none⟩:Addr).add (m*s)).add j)=some u
 rw [add_plain,add_plain,Nat.zero_add]
 exact this
theorem run_head (R:RowTy ty e k z by_) (w:World) (A:Option Addr) (n cap m:Nat) (hm:m≤cap):(Instr.sliceAt ty (.slice A n cap) none (some (.int .i64 (m:Nat))) none).run Tryz.prog w=.ok (.slice A m cap) w:=by
 have hu:Tryz.prog.underlying ty=some (.slice (Tryz.prog.elem ty)):=by rw [R.elem];exact R.under
 obtain ⟨i,hi,_,hs,_⟩:=R.parts
 have hz:(sizeOf (Tryz.prog.elem ty)).run Tryz.prog w=.ok k w:=by rw [R.elem];simp [sizeOf,typeInfo,hi,hs]
 rw [run_sliceAt_slice w _ _ _ _ _ hu,run_slice_h w _ _ _ _ hu .i64 m (by omega) (by omega),hz]
 have e0:∀ a:Addr,a.add 0=a:=fun a=>by unfold Addr.add;simp
 cases A <;> simp [Result.andThen,sliced,e0]
theorem run_tail (R:RowTy ty e k z by_) (w:World) (A:Option Addr) (n cap m:Nat) (hm:m≤n):(Instr.sliceAt ty (.slice A n cap) (some (.int .i64 (m:Nat))) none none).run Tryz.prog w=.ok (.slice (cutR A m k cap) (n-m) (cap-m)) w:=by
 have hu:Tryz.prog.underlying ty=some (.slice (Tryz.prog.elem ty)):=by rw [R.elem];exact R.under
 obtain ⟨i,hi,_,hs,_⟩:=R.parts
 have hz:(sizeOf (Tryz.prog.elem ty)).run Tryz.prog w=.ok k w:=by rw [R.elem];simp [sizeOf,typeInfo,hi,hs]
 rw [run_sliceAt_slice w _ _ _ _ _ hu,run_slice_l w _ _ _ _ hu .i64 m (by omega) (by omega),hz]
 simp [Result.andThen,sliced,cutR]
theorem run_cat (R:RowTy ty e k z by_) {w:World} {B n m cap:Nat} {v:Value} {xs ys:List Value} {A:Option Addr} (t0:TypeId) (h:w.ownsRow B e k v n xs) (hs:Src w A ys) (hl:ys.length=m*k) (h1:∀ u ∈ ys,u.oneCell'=true) (hn:n+m≤10000000) (hB:B≤w.heap.size) :
    ∃ v' w',(Builtin.append_ #[ty,ty] t0 #[v,.slice A m cap]).run Tryz.prog w=.ok v' w'∧w'.ownsRow B e k v' (n+m) (xs++ys)∧w.grownBy w' v.ownBlock∧(v'.ownBlock=v.ownBlock∨v'.ownBlock=some w.heap.size):=by
 obtain ⟨i,hi,hz0,hz1,hz2⟩:=R.parts
 have hk:=R.pos
 have hfew:=R.few
 rcases Nat.eq_zero_or_pos m with h0|h0
 ·subst h0
  obtain rfl:ys=[]:=List.eq_nil_of_length_eq_zero (by omega)
  refine ⟨v,w,?_,by rw [List.append_nil];exact h,⟨rfl,rfl,rfl,Nat.le_refl _,fun _ _ _=>rfl⟩,.inl rfl⟩
  rcases h.2 with ⟨rfl,_⟩|⟨g,cap',cur,rfl,_,_,hnc,_⟩
  ·cases A <;> simp [Builtin.append_,run_underlying R.under,sizeOf,typeInfo,hi,Builtin.lenOf,Builtin.firstCells,loadCells,loadCellsFrom]
  ·cases A <;> simp [Builtin.append_,run_underlying R.under,sizeOf,typeInfo,hi,Builtin.lenOf,Builtin.firstCells,loadCells,loadCellsFrom,storeCells,hnc]
 ·obtain ⟨a,rfl,hc⟩:=hs (by rw [hl];exact Nat.mul_pos h0 hk)
  obtain ⟨v',w',r1,r2,r3,_,r5⟩:=run_append_own_at (P:=Tryz.prog) (w:=w) B ty t0 e i z k by_ R.under hi hz0 hz1 hz2 R.cells hk v n xs h a m cap ys hl hc h1 (by unfold maxLen;omega) (by
   have:=Nat.mul_le_mul hn hfew
   omega) hB
  exact ⟨v',w',r1,r2,r3,r5⟩
theorem step_cat (R:RowTy ty e k z by_) {ops:Array Oper} {o:Oper} {a:Act} {w:World} {K:Act→World→Prop} {Q:Exit→Act→World→Prop} {E:Prop} (hgd:o.guard=none) (s x:Operand)
    (hop:o.op=.call { callee:=.builtin .append,args:=#[s,x],argTypes:=#[ty,ty] }) {B n m cap N:Nat} {v:Value} {xs ys zs:List Value} {A:Option Addr} (hs:a.eval s=v) (hx:a.eval x=.slice A m cap)
    (h:w.ownsRow B e k v n xs) (hsrc:Src w A ys) (hl:ys.length=m*k) (h1:∀ u ∈ ys,u.oneCell'=true) (hn:n+m≤10000000) (hB:B≤w.heap.size) (hN:N=n+m) (hz:zs=xs++ys)
    (hK:∀ v' w',Hid (w'.ownsRow B e k v' N zs)→Hid (w.grownBy w' v.ownBlock)→Hid (v'.ownBlock=v.ownBlock∨v'.ownBlock=some w.heap.size)→K (a.put o.dst v') w') :
    if Region.wanted o (yielded ops a.tmps)=true then Oper.wp Tryz.prog o a w K Q else E:=by
 subst hN hz
 rw [if_pos (show Region.wanted o (yielded ops a.tmps)=true by simp [Region.wanted,hgd])]
 obtain ⟨v',w',r1,r2,r3,r4⟩:=run_cat R (cap:=cap) o.type h hsrc hl h1 hn hB
 unfold Oper.wp
 simp [execOp,hop,resolve,invoke,builtin,hs,hx,r1,Result.andThen]
 exact hK v' w' r2 r3 r4
theorem wpList_cat (R:RowTy ty e k z by_) {ops:Array Oper} {rest:List Oper} {o:Oper} {a:Act} {w:World} {Q:Exit→Act→World→Prop} (hgd:o.guard=none) (s x:Operand)
    (hop:o.op=.call { callee:=.builtin .append,args:=#[s,x],argTypes:=#[ty,ty] }) {B n m cap N:Nat} {v:Value} {xs ys zs:List Value} {A:Option Addr} (hs:a.eval s=v) (hx:a.eval x=.slice A m cap)
    (h:w.ownsRow B e k v n xs) (hsrc:Src w A ys) (hl:ys.length=m*k) (h1:∀ u ∈ ys,u.oneCell'=true) (hn:n+m≤10000000) (hB:B≤w.heap.size) (hN:N=n+m) (hz:zs=xs++ys)
    (hK:∀ v' w',Hid (w'.ownsRow B e k v' N zs)→Hid (w.grownBy w' v.ownBlock)→Hid (v'.ownBlock=v.ownBlock∨v'.ownBlock=some w.heap.size)→wpList Tryz.prog ops Q rest (a.put o.dst v') w'):wpList Tryz.prog ops Q (o :: rest) a w:=by
 subst hN hz
 refine wpList_plain hgd fun K hK'=>?_
 obtain ⟨v',w',r1,r2,r3,r4⟩:=run_cat R (cap:=cap) o.type h hsrc hl h1 hn hB
 unfold Oper.wp
 simp [execOp,hop,resolve,invoke,builtin,hs,hx,r1,Result.andThen]
 exact hK' _ _ (hK v' w' r2 r3 r4)
end
theorem one_own (w:World) (e:TypeId) (cs:List Value) (k:Nat) (hk:cs.length=k):(w.alloc (.cells cs.toArray e)).ownsRow w.heap.size e k (.slice (some ⟨w.heap.size,0,none⟩) 1 1) 1 cs :=
 ⟨by omega,.inr ⟨w.heap.size,1,cs.toArray,rfl,Nat.le_refl _,heap_alloc_new w _,Nat.le_refl _,by unfold maxLen;omega,by simp [hk],by simp [← hk]⟩⟩
theorem new_src (w:World) (e:TypeId) (cs:List Value):Src (w.alloc (.cells cs.toArray e)) (some ⟨w.heap.size,0,none⟩) cs:=fun _=>⟨_,rfl,fun j u hj=>by
 rw [add_plain,cell_of_row _ w.heap.size (0+j) cs.toArray e (0,0) (heap_alloc_new w _),Nat.zero_add]
 simpa using hj⟩
end Rf
end Go.Proofs.YtbnpgakmhhfjkaaGreatDoor
namespace Go.Proofs.YtbnpgakmhhfjkaaGreatDoor
open Go.RowKit Rc
open Tr (Nm En T)
namespace Ts
theorem nameTy:Rf.RowTy 92 116 2 (.agg #[.string .empty,.int .i64 0]) 24:=⟨by kernel_rfl,by kernel_rfl,by kernel_rfl,rfl,by decide,by decide⟩
def ncont (nv:Value) (l:List Nm):Rc.Fact:=⟨fun _ w S=>Tm.NOwn w 0 nv l∧∀ b,nv.ownBlock=some b→S b,fun _ _ _ _ h _ hb=>⟨Tm.own_keep h.1 fun b h1=>hb b (h.2 b h1),h.2⟩⟩
def nrow (l:List Nm):Rc.Fact:=⟨fun v w S=>Tm.NOwn w 0 v l∧∀ b,v.ownBlock=some b→S b,fun _ _ _ _ h _ hb=>⟨Tm.own_keep h.1 fun b h1=>hb b (h.2 b h1),h.2⟩⟩
def ebx (g:Nat) (e:En) (dv nv:Value):Rc.Fact:=⟨fun _ w S=>Blk w g 94 (Tm.enCells e dv nv)∧S g,fun _ _ _ _ h _ hb=>⟨(hb g h.2).trans h.1,h.2⟩⟩
def ebxN (g:Nat) (e:En) (dv:Value) (l:List Nm):Rc.Fact:=⟨fun _ w S=>S g∧∃ x,Blk w g 94 (Tm.enCells e dv x)∧Tm.NOwn w 0 x l∧(∀ b,x.ownBlock=some b→S b),fun _ _ _ _ h _ hb=>by
 obtain ⟨h1,x,h2,h3,h4⟩:=h
 exact ⟨h1,x,(hb g h1).trans h2,Tm.own_keep h3 fun b h5=>hb b (h4 b h5),h4⟩⟩
def rdF (g:Nat) (XB:Option Nat) (W0:World) (x:Value) (s:Co.Rs):Rc.Fact:=⟨fun v w S=>v=x∧Rr g XB s w∧S g∧∀ b,XB=some b→S b∧w.heap[b]?=W0.heap[b]?,fun _ _ _ _ h hs hb=>⟨h.1,h.2.1.keep hs (hb g h.2.2.1) fun b h1=>hb b (h.2.2.2 b h1).1,h.2.2.1,fun b h1=>⟨(h.2.2.2 b h1).1,(hb b (h.2.2.2 b h1).1).trans (h.2.2.2 b h1).2⟩⟩⟩
section
variable {F:Nat→Rc.Fact} {cons:List (Nat × Nat)} {E:Nat→(Nat→Value)→Value→Prop} {V:Nat→Value} {S:Nat→Nat→Prop} {j:Nat} {o:Oper} {b:Act} {w:World}
theorem step_nload {n0:Nat} (l:List Nm) (nv:Value) (hF:F j=nrow l) (h0:(j,n0) ∈ cons) (hc:(ncont nv l).holds (V n0) w (S n0)) (hlt:∀ b,S n0 b→b<w.heap.size) (hE:∀ v,E j V v) (hg:Rg.Open o V) (hrun:(execOp b.eval o).run Tryz.prog w=.ok (.value nv) w):Rg.Does1 Tryz.prog o V b w (Rc.Good F cons E V S j w):=by
 refine .of hg fun K hK=>?_
 unfold Oper.wp
 rw [hrun]
 exact hK _ _ ⟨S n0,Mod.refl _ _,by rw [hF];exact hc,fun b hb=>⟨.inl ⟨n0,h0,hb⟩,hlt b hb⟩,hE _⟩
theorem step_rshort {g i:Nat} {XB:Option Nat} {W0:World} {x0:Value} {s:Co.Rs} {xs:Array Operand} {ts:Array TypeId} (hop:o.op=.call { callee:=.value (.func 118),args:=xs,argTypes:=ts }) (hargs:xs.map b.eval=#[.pointer (some ⟨g,0,none⟩)]) (hF:F j=rdF g XB W0 (.int .i64 ((Co.num 2 s).1:Nat)) (Co.num 2 s).2)
    (hi:(j,i) ∈ cons) (h:(rdF g XB W0 x0 s).holds (V i) w (S i)) (hlt:∀ b,S i b→b<w.heap.size) (hne:∀ b,XB=some b→b≠g) (hE:∀ v,E j V v) (hg:Rg.Open o V):Rg.Does1 Tryz.prog o V b w (Rc.Good F cons E V S j w):=by
 obtain ⟨_,hR,hSg,hX⟩:=h
 refine Rc.step_call #[.pointer (some ⟨g,0,none⟩)] (fun args w=>Rg.call_enter Tryz.func118 (by kernel_rfl) (by kernel_rfl) args w) hop hargs hE hg ((short_rd hR).mono ?_)
 rintro e w' ⟨rfl,h1,h2⟩
 refine ⟨_,S i,rfl,⟨h2.out.os,h2.out.tape,h2.out.output,h2.out.size,fun k hk hn=>h2.out.block k hk fun e=>hn ⟨i,hi,by cases e;exact hSg⟩⟩,?_,fun k hk=>⟨.inl ⟨i,hi,hk⟩,Nat.lt_of_lt_of_le (hlt k hk) h2.out.size⟩⟩
 rw [hF]
 exact ⟨rfl,h1.out,hSg,fun b hb=>⟨(hX b hb).1,(h2.out.block b (hlt b (hX b hb).1) fun e=>by cases e;exact hne _ hb rfl).trans (hX b hb).2⟩⟩
theorem step_none (n:Nm) {t:Nat} (hop:o.op=.buildSlice 92 1 #[(0,.tmp t)]) (hx:b.eval (.tmp t)=.agg #[.string (strOf n.1),.int .i64 n.2]) (hF:F j=nrow [n]) (hE:∀ v,E j V v) (hg:Rg.Open o V):Rg.Does1 Tryz.prog o V b w (Rc.Good F cons E V S j w):=by
 have hrun:(execOp b.eval o).run Tryz.prog w=.ok (.value (.slice (some ⟨w.heap.size,0,none⟩) 1 1)) (w.alloc (.cells #[.string (strOf n.1),.int .i64 n.2] 116)):=by
  obtain ⟨dst,op,ty,pos,after,guard⟩:=o
  simp only at hop
  subst hop
  simp only [execOp,List.map_toArray,List.map_cons,List.map_nil,hx]
  go_simp
 have h1:Tm.NOwn (w.alloc (.cells #[.string (strOf n.1),.int .i64 n.2] 116)) 0 (.slice (some ⟨w.heap.size,0,none⟩) 1 1) [n]:=Tm.own_low (Rf.one_own w 116 [.string (strOf n.1),.int .i64 n.2] 2 rfl)
 refine .of hg fun K hK=>?_
 unfold Oper.wp
 rw [hrun]
 exact hK _ _ ⟨fun b=>b=w.heap.size,(Mod.of_below (below_new w _) _),by rw [hF];exact ⟨h1,fun b hb=>by simpa [Value.ownBlock,eq_comm] using hb⟩,fun k hk=>⟨.inr (by omega),by rw [World.size_alloc];omega⟩,hE _⟩
theorem step_napp {i k:Nat} (l:List Nm) (n:Nm) {s x:Operand} (hop:o.op=.call { callee:=.builtin .append,args:=#[s,x],argTypes:=#[92,92] }) (hs:b.eval s=V i) (hx:b.eval x=V k) (hF:F j=nrow (l++[n])) (hi:(j,i) ∈ cons) (hk:(j,k) ∈ cons)
    (h1:(nrow l).holds (V i) w (S i)) (h2:(nrow [n]).holds (V k) w (S k)) (hl1:∀ b,S i b→b<w.heap.size) (hl2:∀ b,S k b→b<w.heap.size) (hn:l.length≤1000000) (hE:∀ v,E j V v) (hg:Rg.Open o V):Rg.Does1 Tryz.prog o V b w (Rc.Good F cons E V S j w):=by
 obtain ⟨hA,hAS⟩:=h1
 obtain ⟨hB,hBS⟩:=h2
 obtain ⟨A2,c2,hv,hc2,hsrc,_⟩:=Rf.own_src hB
 refine .of hg fun K hK=>?_
 obtain ⟨v',w',r1,r2,r3,r4⟩:=Rf.run_cat nameTy (m:=1) (cap:=c2) o.type hA hsrc rfl (by intro u hu;exact Tm.nmCells_one [n] u hu) (by omega) (Nat.zero_le _)
 unfold Oper.wp
 rw [hv] at hx
 simp [execOp,hop,resolve,invoke,builtin,hs,hx,r1,Result.andThen]
 refine hK v' w' ⟨fun b=>S i b∨v'.ownBlock=some b,⟨r3.os,r3.tape,r3.output,r3.size,fun m hm hn=>r3.block m hm fun e=>hn ⟨i,hi,hAS m e.symm⟩⟩,?_,fun m hm=>?_,hE _⟩
 ·rw [hF]
  refine ⟨?_,fun b hb=>.inr hb⟩
  unfold Tm.NOwn
  rw [Tm.nmCells_append,List.length_append]
  exact r2
 ·rcases hm with hm|hm
  ·exact ⟨.inl ⟨i,hi,hm⟩,Nat.lt_of_lt_of_le (hl1 m hm) r3.size⟩
  ·refine ⟨?_,(Tm.own_blk r2 hm).2.1⟩
   rcases r4 with r4|r4
   ·rw [r4] at hm
    exact .inl ⟨i,hi,hAS m hm⟩
   ·rw [r4] at hm
    injection hm with hm
    exact .inr (by omega)
theorem step_nput {g n0 r:Nat} (e:En) (dv nv x:Value) (l:List Nm) (hV:V r=x) (hF:F j=ebxN g e dv l) (h0:(j,n0) ∈ cons) (hr:(j,r) ∈ cons) (hb0:(ebx g e dv nv).holds (V n0) w (S n0)) (h1:(nrow l).holds (V r) w (S r)) (hsep:∀ b,S r b→¬ S n0 b)
    (hlt:∀ b,S r b→b<w.heap.size) (hE:∀ v,E j V v) (hg:Rg.Open o V) (h:(execOp b.eval o).run Tryz.prog w=.ok .skip (w.setCell ⟨g,7,none⟩ x)):Rg.Does1 Tryz.prog o V b w (Rc.Good F cons E V S j w):=by
 subst hV
 obtain ⟨hb,hSg⟩:=hb0
 refine .of hg fun K hK=>?_
 unfold Oper.wp
 rw [h]
 have hne:∀ b,S r b→b≠g:=fun b h1 e=>hsep b h1 (e ▸ hSg)
 refine hK undef (w.setCell ⟨g,7,none⟩ (V r)) ⟨fun b=>b=g∨S r b,⟨rfl,rfl,rfl,by simp [World.setCell],fun m hm hn=>Below.heap_setCell _ _ _ _ (fun e=>hn ⟨n0,h0,e ▸ hSg⟩)⟩,?_,fun m hm=>?_,hE _⟩
 ·rw [hF]
  exact ⟨.inl rfl,V r,hb.set_ 7 (V r),Tm.own_keep h1.1 fun b hb2=>Below.heap_setCell _ _ _ _ (hne b (h1.2 b hb2)),fun b hb2=>.inr (h1.2 b hb2)⟩
 ·rcases hm with rfl|hm
  ·exact ⟨.inl ⟨n0,h0,hSg⟩,by have:=hb.lt;simpa [World.setCell] using this⟩
  ·exact ⟨.inl ⟨r,hr,hm⟩,by have:=hlt m hm;simpa [World.setCell] using this⟩
end
theorem three_inv {ge gr n:Nat} {XB:Option Nat} {nv dv:Value} {l:List Nm} {e:En} {s:Co.Rs} {w:World} (hL:Tm.NOwn w 0 nv l) (hb:Blk w ge 94 (Tm.enCells e dv nv)) (hR:Rr gr XB s w) (hX:∀ b,XB=some b→b<w.heap.size∧b≠ge∧nv.ownBlock≠some b) (hgr:gr≠ge∧nv.ownBlock≠some gr∧nv.ownBlock≠some ge)
    (F:Nat→Rc.Fact) (cons:List (Nat × Nat)) (hF:F n=ncont nv l) (hF2:F (n+1)=ebx ge e dv nv) (hF3:F (n+2)=rdF gr XB w undef s) :
    Rc.Inv F cons (Rg.alias []) w.drew (fun b=>nv.ownBlock=some b∨b=ge∨b=gr∨XB=some b) (fun i=>n≤i∧i<n+3) (fun _=>undef) (fun i b=>(i=n∧nv.ownBlock=some b)∨(i=n+1∧b=ge)∨(i=n+2∧(b=gr∨XB=some b))) w.drew:=by
 refine ⟨Mod.refl _ _,fun i hi=>?_,fun i b hi hb2=>?_,fun i k b hi hk hne h1 h2=>?_,fun j _=>fun i f hm=>by simp at hm⟩
 ·rcases (show i=n∨i=n+1∨i=n+2 by have:=hi.1;omega) with rfl|rfl|rfl
  ·rw [hF];exact ⟨Tm.own_keep hL fun _ _=>rfl,fun b hb=>.inl ⟨rfl,hb⟩⟩
  ·rw [hF2];exact ⟨hb,.inr (.inl ⟨rfl,rfl⟩)⟩
  ·rw [hF3];exact ⟨rfl,hR.keep (Nat.le_refl _) rfl fun _ _=>rfl,.inr (.inr ⟨rfl,.inl rfl⟩),fun b hb=>⟨.inr (.inr ⟨rfl,.inr hb⟩),rfl⟩⟩
 ·rcases hb2 with ⟨_,h⟩|⟨_,rfl⟩|⟨_,rfl|h⟩
  ·exact ⟨(Tm.own_blk hL h).2.1,.inl (.inl h)⟩
  ·exact ⟨hb.lt,.inl (.inr (.inl rfl))⟩
  ·exact ⟨hR.lt,.inl (.inr (.inr (.inl rfl)))⟩
  ·exact ⟨(hX b h).1,.inl (.inr (.inr (.inr h)))⟩
 ·obtain ⟨g1,g2,g3⟩:=hgr
  rcases h1 with ⟨h3,h4⟩|⟨h3,h4⟩|⟨h3,h4⟩ <;> rcases h2 with ⟨h5,h6⟩|⟨h5,h6⟩|⟨h5,h6⟩
  ·omega
  ·subst h6;exact g3 h4
  ·rcases h6 with rfl|h6
   ·exact g2 h4
   ·exact (hX b h6).2.2 h4
  ·subst h4;exact g3 h6
  ·omega
  ·subst h4
   rcases h6 with h6|h6
   ·exact g1 h6.symm
   ·exact (hX b h6).2.1 rfl
  ·rcases h4 with rfl|h4
   ·exact g2 h6
   ·exact (hX b h4).2.2 h6
  ·subst h6
   rcases h4 with h4|h4
   ·exact g1 h4.symm
   ·exact (hX b h4).2.1 rfl
  ·omega
end Ts
end Go.Proofs.YtbnpgakmhhfjkaaGreatDoor
namespace Go.Proofs.YtbnpgakmhhfjkaaGreatDoor
open Go.RowKit Rc
open Tr (Nm En T)
namespace Ts
variable {g:Nat} {XB:Option Nat} {s:Co.Rs} {w:World}
def EntOut (g:Nat) (XB:Option Nat) (s:Co.Rs) (w:World) (r:Ending) (w':World):Prop :=
 Keeps w w' g∧((∃ v,r=.returned (.tuple #[v,.bool false])∧Tr.ldEn s=none)∨∃ e s' ge dv nv,Tr.ldEn s=some (e,s')∧r=.returned (.tuple #[.pointer (some ⟨ge,0,none⟩),.bool true])∧Tm.EIn ge dv nv e w'∧(∀ b,Tm.EnS ge dv nv b→w.heap.size≤b)∧Rr g XB s' w')
theorem bytes_small (s:Co.Rs):(Co.bytes s).1.length≤65535:=by
 have h1:=num_small2 s
 unfold Co.bytes Co.raw
 split
 ·simp
 ·split
  ·simp
  ·rw [List.length_take];omega
theorem ein_keeps {g ge:Nat} {dv nv:Value} {e:En} {w1 w2:World} (h:Tm.EIn ge dv nv e w1) (hk:Keeps w1 w2 g) (hg:∀ b,Tm.EnS ge dv nv b→b≠g):Tm.EIn ge dv nv e w2:=h.keep fun b hb=>hk.block b (h.kind hb).1 fun e=>hg b hb (by cases e;rfl)
theorem left_is {N:Nat} {s6 sj:Co.Rs} {l:List Nm} {last:Bs} (h:Tr.ldNames N [] s6=(Tr.ldNames (N-l.length) last sj).map fun r=>(l++r.1,r.2)) (hl:l.length<N) (hg:Pa.good (Co.bytes sj).1=true) (hs:Tr.less last (Co.bytes sj).1=true) :
    Tr.ldNames N [] s6=(Tr.ldNames (N-(l++[((Co.bytes sj).1,((Co.num 2 (Co.bytes sj).2).1:Int))]).length) (Co.bytes sj).1 (Co.num 2 (Co.bytes sj).2).2).map fun r=>((l++[((Co.bytes sj).1,((Co.num 2 (Co.bytes sj).2).1:Int))])++r.1,r.2):=by
 obtain ⟨m,hm⟩:∃ m,N-l.length=m+1:=⟨N-l.length-1,by omega⟩
 rw [h,hm]
 rw [show N-(l++[((Co.bytes sj).1,((Co.num 2 (Co.bytes sj).2).1:Int))]).length=m by simp;omega]
 conv=>lhs;unfold Tr.ldNames
 rw [if_pos ⟨hg,hs⟩]
 generalize Tr.ldNames m (Co.bytes sj).1 (Co.num 2 (Co.bytes sj).2).2=o
 cases o with
 | none=>rfl
 | some r=>simp
theorem left_no {N:Nat} {s6 sj:Co.Rs} {l:List Nm} {last:Bs} (h:Tr.ldNames N [] s6=(Tr.ldNames (N-l.length) last sj).map fun r=>(l++r.1,r.2)) (hl:l.length<N) (hg:¬ (Pa.good (Co.bytes sj).1=true∧Tr.less last (Co.bytes sj).1=true)):Tr.ldNames N [] s6=none:=by
 obtain ⟨m,hm⟩:∃ m,N-l.length=m+1:=⟨N-l.length-1,by omega⟩
 rw [h,hm]
 conv=>lhs;unfold Tr.ldNames
 rw [if_neg hg]
 rfl
set_option maxHeartbeats 2000000 in
set_option maxRecDepth 100000 in
theorem entry_to {Q:Ending→World→Prop} (HQ:Hid (∀ r w',EntOut g XB s w r w'→Q r w')) (h:Rr g XB s w) (hx:∀ b,XB=some b→b<w.heap.size∧b≠g):Calls Tryz.prog 119 #[.pointer (some ⟨g,0,none⟩)] w Q:=by
 have HR:=Lib.hid h
 have HX:=Lib.hid hx
 have hgl:=h.lt
 have HW0:Hid (g<w.heap.size):=hgl
 clear h hx hgl
 go_enter Tryz.func119,Tryz.ntmps119
 go_wp2_with fail
 refine (bytes_rd HR.out).mono ?_
 rintro e w1 ⟨X,c,rfl,HB,HO,HR1,HK1⟩
 obtain ⟨L,hL⟩:∃ L,L=(Co.bytes s).1:=⟨_,rfl⟩
 obtain ⟨s1,hs1⟩:∃ s1,s1=(Co.bytes s).2:=⟨_,rfl⟩
 rw [← hL] at HB HO ⊢
 rw [← hs1] at HR1
 have HLS:∀ P:Prop,(L=(Co.bytes s).1∧s1=(Co.bytes s).2→P)→P:=fun P k=>k ⟨hL,hs1⟩
 have hlen:L.length≤65535:=by rw [hL];exact bytes_small s
 clear hL hs1
 obtain ⟨⟨⟨ia,ka,la,za,ta,sa⟩,why⟩,hdn⟩:∃ d,ndDec L=d:=⟨_,rfl⟩
 have HD:Hid (Calls Tryz.prog 158 #[.slice X L.length c] w1 fun e w'=>e=.returned (.tuple #[.agg #[.int .i64 ia,.int .i64 ka,.int .i64 la,.int .i64 za,.int .u64 (ta:Nat),.bool sa],.int .i64 (why:Nat)])∧Below w1.heap.size w1 w'):=by
  have:=dec_any rsaid rmake w1 X L c HB.out.2 HB.out.1 (by omega)
  rw [hdn] at this
  exact this
 have HDN:∀ P:Prop,(ndDec L=(⟨ia,ka,la,za,ta,sa⟩,why)→P)→P:=fun P k=>k hdn
 clear hlen hdn
 go_wp2_with fail
 refine HD.out.mono ?_
 rintro e w2 ⟨rfl,hb2⟩
 have HR2:Hid (Rr g XB s1 w2):=HR1.out.below (fun b hb=>Nat.lt_of_lt_of_le (HX.out b hb).1 HK1.out.size) hb2
 have HK2:Hid (Keeps w w2 g):=HK1.out.trans (Keeps.of_below hb2)
 clear HB HO HR1 HK1 HD hb2
 go_upto_region 2 with (fail)
 obtain ⟨wn,hwn⟩:∃ wn,wn=w2.alloc (.cells #[.int .i64 ia,.int .i64 ka,.int .i64 la,.int .i64 za,.int .u64 (ta:Nat),.bool sa] 31):=⟨_,rfl⟩
 obtain ⟨nb,hnb⟩:∃ nb,nb=w2.heap.size:=⟨_,rfl⟩
 have HNB:Hid (Blk wn nb 31 [.int .i64 ia,.int .i64 ka,.int .i64 la,.int .i64 za,.int .u64 (ta:Nat),.bool sa]):=by rw [hwn,hnb];exact Blk.new w2 _ _
 have hbn:Below w2.heap.size w2 wn:=by rw [hwn];exact below_new w2 _
 have HR3:Hid (Rr g XB s1 wn):=HR2.out.below (fun b hb=>Nat.lt_of_lt_of_le (HX.out b hb).1 HK2.out.size) hbn
 have HK3:Hid (Keeps w wn g):=HK2.out.trans (Keeps.of_below hbn)
 have HNG:Hid (nb≠g∧w.heap.size≤nb):=by
  have h1:=HK2.out.size
  have h2:g<w.heap.size:=HW0.out
  exact ⟨by omega,by omega⟩
 rw [← hwn,← hnb]
 clear hwn hnb hbn HR2 HK2
 by_cases hw:why=0
 ·have hb:((why:Int)==0)=true:=by rw [beq_iff_eq];omega
  have HWHY:=Lib.hid hw
  clear hw
  have HNC:Hid (∀ W,Keeps wn W g→W.cell? ⟨nb,0,none⟩=some (.int .i64 ia)∧W.cell? ⟨nb,1,none⟩=some (.int .i64 ka)∧W.cell? ⟨nb,2,none⟩=some (.int .i64 la)∧W.cell? ⟨nb,3,none⟩=some (.int .i64 za)∧W.cell? ⟨nb,4,none⟩=some (.int .u64 (ta:Nat))∧W.cell? ⟨nb,5,none⟩=some (.bool sa)):=fun W hW=>by
   have h1:Blk W nb 31 [.int .i64 ia,.int .i64 ka,.int .i64 la,.int .i64 za,.int .u64 (ta:Nat),.bool sa]:=(hW.block nb HNB.out.lt fun e=>by cases e;exact HNG.out.1 rfl).trans HNB.out
   exact ⟨h1.cell 0,h1.cell 1,h1.cell 2,h1.cell 3,h1.cell 4,h1.cell 5⟩
  have HRD:Hid (Rr g XB s1 wn.drew):=HR3.out.keep (Nat.le_refl _) rfl fun _ _=>rfl
  go_upto_region 4 with (fail)
  clear hb
  go_region_held3 (fun W=>W.cell? ⟨nb,0,none⟩=some (.int .i64 ia)∧W.cell? ⟨nb,1,none⟩=some (.int .i64 ka)∧W.cell? ⟨nb,2,none⟩=some (.int .i64 la)∧W.cell? ⟨nb,3,none⟩=some (.int .i64 za)∧W.cell? ⟨nb,4,none⟩=some (.int .u64 (ta:Nat))∧W.cell? ⟨nb,5,none⟩=some (.bool sa))
   (first
    | exact HNC.out _ ((HK4.out).trans (Keeps.of_below (below_new _ _)))
    | exact HNC.out _ HK4.out
    | exact HNC.out _ ⟨rfl,rfl,rfl,Nat.le_refl _,fun _ _ _=>rfl⟩
    | fail)
   (first
    | (go_at_call 135;refine (bytes_rd HRD.out).mono ?_;rintro e1 w4 ⟨X4,c4,rfl,HB4,HO4,HR4,HK4d⟩;have HK4:Hid (Keeps wn w4 g):=⟨HK4d.out.os,HK4d.out.tape,HK4d.out.output,HK4d.out.size,HK4d.out.block⟩)
    | fail)
  obtain ⟨x4,hx4⟩:∃ x4,x4=(Co.bytes s1).1:=⟨_,rfl⟩
  obtain ⟨s4,hs4⟩:∃ s4,s4=(Co.bytes s1).2:=⟨_,rfl⟩
  rw [← hx4] at HB4 HO4 ⊢
  rw [← hs4] at HR4
  have HLS4:∀ P:Prop,(x4=(Co.bytes s1).1∧s4=(Co.bytes s1).2→P)→P:=fun P k=>k ⟨hx4,hs4⟩
  clear hx4 hs4
  obtain ⟨nd,hnd⟩:∃ nd:Nd,nd=⟨ia,ka,la,za,ta,sa⟩:=⟨_,rfl⟩
  obtain ⟨dv,hdv⟩:∃ dv,dv=Value.slice X4 x4.length c4:=⟨_,rfl⟩
  obtain ⟨w5,hw5⟩:∃ w5,w5=w4.alloc (.cells #[.int .i64 ia,.int .i64 ka,.int .i64 la,.int .i64 za,.int .u64 (ta:Nat),.bool sa,.slice X4 x4.length c4,.slice none 0 0] 94):=⟨_,rfl⟩
  obtain ⟨ge,hge⟩:∃ ge,ge=w4.heap.size:=⟨_,rfl⟩
  have hb5:Below w4.heap.size w4 w5:=by rw [hw5];exact below_new w4 _
  have HEI:Hid (Tm.EIn ge dv (.slice none 0 0) ⟨nd,x4,[]⟩ w5):=by
   refine ⟨?_,?_,Tm.NOwn.nil _ _⟩
   ·rw [hw5,hge,hdv,hnd];exact Blk.new w4 _ _
   ·rw [hdv];exact Tm.own_low (Tm.own_keep HO4.out fun b hb=>hb5.block b (Tm.own_blk HO4.out hb).2.1)
  have HR5:Hid (Rr g XB s4 w5):=HR4.out.below (fun b hb=>Nat.lt_of_lt_of_le (HX.out b hb).1 (Nat.le_trans HK3.out.size HK4.out.size)) hb5
  have HK5:Hid (Keeps w w5 g):=(HK3.out.trans HK4.out).trans (Keeps.of_below hb5)
  have HUP:Hid ((∀ b,Tm.EnS ge dv (.slice none 0 0) b→w.heap.size≤b)∧w.heap.size≤wn.heap.size):=by
   refine ⟨fun b hb=>?_,HK3.out.size⟩
   have h1:=HK3.out.size
   have h2:=HK4.out.size
   rcases hb with rfl|hb|hb
   ·omega
   ·rw [hdv] at hb
    have h3:=(Tm.own_blk HO4.out hb).1
    have h4:wn.heap.size≤b:=h3
    omega
   ·cases hb
  have HNB5:Hid (Blk w5 nb 31 [.int .i64 ia,.int .i64 ka,.int .i64 la,.int .i64 za,.int .u64 (ta:Nat),.bool sa]):=(((HK4.out).trans (Keeps.of_below hb5)).block nb HNB.out.lt fun e=>by cases e;exact HNG.out.1 rfl).trans HNB.out
  rw [← hw5,← hge]
  have HNDX:Hid (nd=⟨ia,ka,la,za,ta,sa⟩∧dv=.slice X4 x4.length c4∧x4.length≤c4):=⟨hnd,hdv,HB4.out.1⟩
  clear hw5 hge hb5 hnd hdv HNC HRD HR4 HK4 HK4d HB4 HO4 HR3 HK3 HNB
  go_wp2_with fail
  refine (short_rd HR5.out).mono ?_
  rintro e w6 ⟨rfl,HR6,HK6⟩
  obtain ⟨N,hN⟩:∃ N,N=(Co.num 2 s4).1:=⟨_,rfl⟩
  obtain ⟨s6,hs6⟩:∃ s6,s6=(Co.num 2 s4).2:=⟨_,rfl⟩
  have hNs:N≤65535:=by rw [hN];have:=num_small2 s4;omega
  rw [← hN]
  rw [← hs6] at HR6
  have HLD:∀ P:Prop,(Tr.ldEn s=((Tr.ldNames N [] s6).bind fun r=>if (x4.length:Int)=za then some (⟨nd,x4,r.1⟩,r.2) else none)→P)→P:=fun P k=>k (by
   refine HLS _ fun hls=>HDN _ fun hdn=>HLS4 _ fun hls4=>?_
   unfold Tr.ldEn
   rw [← hls.1,hdn,← hls.2,← hls4.1,← hls4.2,← hN,← hs6]
   dsimp only
   rw [if_neg (by rw [show why=0 from HWHY.out];simp),HNDX.out.1])
  have hgne:∀ b,Tm.EnS ge dv (.slice none 0 0) b→b≠g:=fun b hb h9=>by
   have h1:=HUP.out.1 b hb
   have h2:g<w.heap.size:=HW0.out
   omega
  have HE6:Hid (Tm.EIn ge dv (.slice none 0 0) ⟨nd,x4,[]⟩ w6):=ein_keeps HEI.out HK6.out hgne
  have HK6w:Hid (Keeps w w6 g):=HK5.out.trans HK6.out
  have HNB6:Hid (Blk w6 nb 31 [.int .i64 ia,.int .i64 ka,.int .i64 la,.int .i64 za,.int .u64 (ta:Nat),.bool sa]):=(HK6.out.block nb HNB5.out.lt fun e=>by cases e;exact HNG.out.1 rfl).trans HNB5.out
  have HU0:Hid (∀ b,Tm.EnS ge dv (.slice none 0 0) b→w.heap.size≤b):=HUP.out.1
  have HNIL:Hid (Tr.ldNames N [] s6=(Tr.ldNames (N-([]:List Nm).length) [] s6).map fun r=>(([]:List Nm)++r.1,r.2)):=by
   show _=_
   generalize hq:Tr.ldNames N [] s6=o
   cases o <;> rfl
  have HREL0:∀ P:Prop,((Tr.ldNames N [] s6=(Tr.ldNames (N-([]:List Nm).length) [] s6).map fun r=>(([]:List Nm)++r.1,r.2))→P)→P:=fun P k=>k HNIL.out
  have HNS:Hid (N≤65535):=hNs
  clear HLS HDN HLS4 hN hs6 hgne HNIL HEI HR5 HK5 HK6 HNB5 HUP HWHY hNs
  go_wp2_with fail
  go_loopw [7,8,24] (fun t7 t8 t24 wr=>∃ (l:List Nm) (last:Bs) (sj:Co.Rs) (nv v8:Value),t7=.string (strOf last)∧t8=v8∧t24=.int .i64 l.length∧l.length≤N∧Hid (Tm.EIn ge dv nv ⟨nd,x4,l⟩ wr)∧Hid (Rr g XB sj wr)∧Hid (Keeps w wr g)∧Hid (∀ b,Tm.EnS ge dv nv b→w.heap.size≤b)∧Hid (Blk wr nb 31 [.int .i64 ia,.int .i64 ka,.int .i64 la,.int .i64 za,.int .u64 (ta:Nat),.bool sa])∧∀ P:Prop,((Tr.ldNames N [] s6=(Tr.ldNames (N-l.length) last sj).map fun r=>(l++r.1,r.2))→P)→P) (fun _ _ t24 _=>N-(match t24 with|.int _ k=>k.toNat|_=>0))
  case atStart=>exact ⟨[],[],s6,_,_,rfl,rfl,rfl,Nat.zero_le _,HE6.out,HR6.out,HK6w.out,HU0.out,HNB6.out,HREL0⟩
  case round =>
   clear HE6 HR6 HK6w HU0 HNB6 HREL0
   obtain ⟨l,last,sj,nv,v8,rfl,rfl,rfl,hl,HE,HRj,HKj,HU,HNBj,HREL⟩:=hrel
   by_cases hk:l.length<N
   ·have hlt2:(l.length:Int)<(N:Int):=by omega
    go_wp2_with fail
    refine (bytes_rd HRj.out).mono ?_
    rintro e w7 ⟨X7,c7,rfl,HB7,HO7,HR7,HK7⟩
    obtain ⟨x,hx⟩:∃ x,x=(Co.bytes sj).1:=⟨_,rfl⟩
    obtain ⟨s7,hs7⟩:∃ s7,s7=(Co.bytes sj).2:=⟨_,rfl⟩
    rw [← hx] at HB7 ⊢
    rw [← hs7] at HR7
    have HXS:∀ P:Prop,(x=(Co.bytes sj).1∧s7=(Co.bytes sj).2→P)→P:=fun P k=>k ⟨hx,hs7⟩
    have hstr:=str_any w7 X7 x c7 HB7.out.2
    have hxl:x.length≤65535:=by rw [hx];exact bytes_small sj
    have hgne:∀ b,Tm.EnS ge dv nv b→b≠g:=fun b hb h9=>by
     have h1:=HU.out b hb
     have h2:g<w.heap.size:=HW0.out
     omega
    have HE7:Hid (Tm.EIn ge dv nv ⟨nd,x4,l⟩ w7):=ein_keeps HE.out HK7.out hgne
    have HK7w:Hid (Keeps w w7 g):=HKj.out.trans HK7.out
    have HNB7:Hid (Blk w7 nb 31 [.int .i64 ia,.int .i64 ka,.int .i64 la,.int .i64 za,.int .u64 (ta:Nat),.bool sa]):=(HK7.out.block nb HNBj.out.lt fun e=>by cases e;exact HNG.out.1 rfl).trans HNBj.out
    have HGD:=Lib.hid (good_any x w7 (by omega))
    clear hx hs7 hgne HE HRj HK7 HNBj HB7 HO7 HKj
    go_wp2_with fail
    refine HGD.out.mono ?_
    rintro e w8 ⟨rfl,rfl⟩
    clear HGD
    by_cases hgood:Pa.good x=true
    ·rw [hgood]
     by_cases hless:Tr.less last x=true
     ·have hl1:Op.bytesLess (strOf x).toList (strOf last).toList=false:=by rw [strOf_list,strOf_list];exact Tr.less_asym hless
      have hl2:((strOf x).toList==(strOf last).toList)=false:=by rw [strOf_list,strOf_list,beq_eq_false_iff_ne];exact (Tr.less_ne hless).symm
      have HGL:Hid (Pa.good x=true∧Tr.less last x=true):=⟨hgood,hless⟩
      clear hgood hless
      go_upto_region 11 with (fail)
      obtain ⟨n,hn⟩:∃ n:Nm,n=(x,((Co.num 2 s7).1:Int)):=⟨_,rfl⟩
      obtain ⟨PP,hPP⟩:∃ PP,PP=Value.pointer (some ⟨ge,0,none⟩):=⟨_,rfl⟩
      obtain ⟨P7,hP7⟩:∃ P7,P7=Value.pointer (some ⟨ge,7,none⟩):=⟨_,rfl⟩
      obtain ⟨PG,hPG⟩:∃ PG,PG=Value.pointer (some ⟨g,0,none⟩):=⟨_,rfl⟩
      have HLL:Hid (l.length≤1000000):=by
       show _≤_
       have h1:N≤65535:=HNS.out
       omega
      have hnvb:∀ b,nv.ownBlock=some b→w.heap.size≤b:=fun b hb=>HU.out b (.inr (.inr hb))
      have hgeb:w.heap.size≤ge:=HU.out ge (.inl rfl)
      have hgw:g<w.heap.size:=HW0.out
      have HNVG:Hid (nv.ownBlock≠some ge):=fun h9=>by
       obtain ⟨_,_,cs9,h10⟩:=Tm.own_blk HE7.out.names h9
       exact h10.ne_ HE7.out.box (by decide) rfl
      have H3:=Lib.hid (fun F cons h1 h2 h3=>three_inv (ge:=ge) (gr:=g) (n:=14) (XB:=XB) (F:=F) (cons:=cons) HE7.out.names HE7.out.box HR7.out (fun b hb=>⟨Nat.lt_of_lt_of_le (HX.out b hb).1 HK7w.out.size,fun h9=>by have:=(HX.out b hb).1;omega,fun h9=>by have:=hnvb b h9;have:=(HX.out b hb).1;omega⟩) ⟨by omega,fun h9=>by have:=hnvb g h9;omega,HNVG.out⟩ h1 h2 h3)
      clear hnvb hgeb hgw
      refine Rc.wp_region (by kernel_rfl) (fun opn=>List.getD [Rc.val PP,Rc.val PP,Rc.val PP,Rc.val P7,nrow l,Rc.val (.string (strOf x)),Rc.val PG,rdF g XB w7 (.int .i64 ((Co.num 2 s7).1:Nat)) (Co.num 2 s7).2,Rc.val (.agg #[.string (strOf x),.int .i64 ((Co.num 2 s7).1:Nat)]),nrow [n],nrow (l++[n]),Rc.val PP,Rc.val P7,ebxN ge ⟨nd,x4,l⟩ dv (l++[n]),ncont nv l,ebx ge ⟨nd,x4,l⟩ dv nv,rdF g XB w7 undef s7] opn Rc.any) 3 [] [[],[],[(1,38)],[(2,39)],[(3,40)],[],[],[(6,43)],[(5,42),(7,44)],[(8,45)],[(4,41),(9,46)],[(0,37)],[(11,48)],[(12,49),(10,47)]] [[],[],[1],[2],[3],[],[],[6],[5,7],[8],[4,9],[0],[11],[4,10,12]] [[],[],[1],[2],[3,14,15],[],[],[6,16],[5,7],[8],[4,9],[0],[11],[10,12,15]] [(4,14),(7,16),(10,4),(10,9),(13,10),(13,15)] (by kernel_rfl) (by rfl) (by kernel_rfl) _ _ (H3.out _ _ rfl rfl rfl) ?_ ?_
      ·intro fr ha
       have hz:fr.tmps.size=61:=by rw [ha];rfl
       have y0:fr.eval (.tmp 0)=PG:=by rw [ha,hPG];rfl
       have y6:fr.eval (.tmp 6)=PP:=by rw [ha,hPP];rfl
       have y8:fr.eval (.tmp 8)=.string (strOf x):=by rw [ha];rfl
       clear ha
       refine .cons ?_ (.cons ?_ (.cons ?_ (.cons ?_ (.cons ?_ (.cons ?_ (.cons ?_ (.cons ?_ (.cons ?_ (.cons ?_ (.cons ?_ (.cons ?_ (.cons ?_ (.cons ?_ .nil)))))))))))))
       ·intro V S NW HM HU2 HE2
        have tb6:=(Rg.use_eval V fr 6 [] (by rw [hz];decide)).trans y6
        show Rg.Does1 _ _ V (Rg.putUse V [] fr) NW _
        exact Ob.rc_mv PP (by simp only [execOp,tb6];go_simp) rfl rfl True.intro
       ·intro V S NW HM HU2 HE2
        have tb6:=(Rg.use_eval V fr 6 [] (by rw [hz];decide)).trans y6
        show Rg.Does1 _ _ V (Rg.putUse V [] fr) NW _
        exact Ob.rc_mv PP (by simp only [execOp,tb6];go_simp) rfl rfl True.intro
       ·intro V S NW HM HU2 HE2
        have v1:V 1=PP:=HU2.holds 1 (by decide)
        have tb38:=(Rg.use_eval V fr 38 [(1,38)] (by rw [hz];decide)).trans v1
        show Rg.Does1 _ _ V (Rg.putUse V [(1,38)] fr) NW _
        exact Ob.rc_mv PP (by rw [hPP] at tb38;simp only [execOp,tb38,hPP,hP7];go_simp) rfl rfl True.intro
       ·intro V S NW HM HU2 HE2
        have v2:V 2=PP:=HU2.holds 2 (by decide)
        have tb39:=(Rg.use_eval V fr 39 [(2,39)] (by rw [hz];decide)).trans v2
        show Rg.Does1 _ _ V (Rg.putUse V [(2,39)] fr) NW _
        exact Ob.rc_mv P7 (by rw [hPP] at tb39;simp only [execOp,tb39,hP7];go_simp) rfl rfl True.intro
       ·intro V S NW HM HU2 HE2
        have v3:V 3=P7:=HU2.holds 3 (by decide)
        have tb40:=(Rg.use_eval V fr 40 [(3,40)] (by rw [hz];decide)).trans v3
        show Rg.Does1 _ _ V (Rg.putUse V [(3,40)] fr) NW _
        have hbk:(ebx ge ⟨nd,x4,l⟩ dv nv).holds (V 15) NW (S 15):=HU2.holds 15 (by decide)
        have cl:NW.cell? ⟨ge,7,none⟩=some nv:=hbk.1.cell 7
        exact step_nload (n0:=14) l nv rfl (by decide) (HU2.holds 14 (by decide)) (HU2.lt 14 (by decide)) (fun x=>Rg.alias_none rfl V x) True.intro (by rw [hP7] at tb40;simp only [execOp,tb40];go_simp)
       ·intro V S NW HM HU2 HE2
        have tb8:=(Rg.use_eval V fr 8 [] (by rw [hz];decide)).trans y8
        show Rg.Does1 _ _ V (Rg.putUse V [] fr) NW _
        exact Ob.rc_mv (.string (strOf x)) (by simp only [execOp,tb8];go_simp) rfl rfl True.intro
       ·intro V S NW HM HU2 HE2
        have tb0:=(Rg.use_eval V fr 0 [] (by rw [hz];decide)).trans y0
        show Rg.Does1 _ _ V (Rg.putUse V [] fr) NW _
        exact Ob.rc_mv PG (by simp only [execOp,tb0];go_simp) rfl rfl True.intro
       ·intro V S NW HM HU2 HE2
        have v6:V 6=PG:=HU2.holds 6 (by decide)
        have tb43:=(Rg.use_eval V fr 43 [(6,43)] (by rw [hz];decide)).trans v6
        show Rg.Does1 _ _ V (Rg.putUse V [(6,43)] fr) NW _
        exact step_rshort (i:=16) rfl (by rw [hPG] at tb43;simp only [List.map_toArray,List.map_cons,List.map_nil,tb43]) rfl (by decide) (HU2.holds 16 (by decide)) (HU2.lt 16 (by decide)) (fun b hb=>(HX.out b hb).2) (fun x=>Rg.alias_none rfl V x) True.intro
       ·intro V S NW HM HU2 HE2
        have v5:V 5=(.string (strOf x)):=HU2.holds 5 (by decide)
        have tb42:=(Rg.use_eval V fr 42 [(5,42),(7,44)] (by rw [hz];decide)).trans v5
        have v7:V 7=.int .i64 ((Co.num 2 s7).1:Nat):=(HU2.holds 7 (by decide)).1
        have tb44:=(Rg.use_eval V fr 44 [(5,42),(7,44)] (by rw [hz];decide)).trans v7
        show Rg.Does1 _ _ V (Rg.putUse V [(5,42),(7,44)] fr) NW _
        exact Ob.rc_mv (.agg #[.string (strOf x),.int .i64 ((Co.num 2 s7).1:Nat)]) (by clear HXS HREL HLD v5 v7 hn hPP hP7 hPG hl1 hl2 hstr;simp only [execOp,List.map_toArray,List.map_cons,List.map_nil,tb42,tb44];go_simp) rfl rfl True.intro
       ·intro V S NW HM HU2 HE2
        have v8:V 8=(.agg #[.string (strOf x),.int .i64 ((Co.num 2 s7).1:Nat)]):=HU2.holds 8 (by decide)
        have tb45:=(Rg.use_eval V fr 45 [(8,45)] (by rw [hz];decide)).trans v8
        show Rg.Does1 _ _ V (Rg.putUse V [(8,45)] fr) NW _
        exact step_none n rfl (by rw [hn];exact tb45) rfl (fun x=>Rg.alias_none rfl V x) True.intro
       ·intro V S NW HM HU2 HE2
        have tb41:=(Rg.use_eval V fr 41 [(4,41),(9,46)] (by rw [hz];decide)).trans rfl
        have tb46:=(Rg.use_eval V fr 46 [(4,41),(9,46)] (by rw [hz];decide)).trans rfl
        show Rg.Does1 _ _ V (Rg.putUse V [(4,41),(9,46)] fr) NW _
        exact step_napp (i:=4) (k:=9) l n rfl tb41 tb46 rfl (by decide) (by decide) (HU2.holds 4 (by decide)) (HU2.holds 9 (by decide)) (HU2.lt 4 (by decide)) (HU2.lt 9 (by decide)) HLL.out (fun x=>Rg.alias_none rfl V x) True.intro
       ·intro V S NW HM HU2 HE2
        have v0:V 0=PP:=HU2.holds 0 (by decide)
        have tb37:=(Rg.use_eval V fr 37 [(0,37)] (by rw [hz];decide)).trans v0
        show Rg.Does1 _ _ V (Rg.putUse V [(0,37)] fr) NW _
        exact Ob.rc_mv PP (by rw [hPP] at tb37;simp only [execOp,tb37,hPP,hP7];go_simp) rfl rfl True.intro
       ·intro V S NW HM HU2 HE2
        have v11:V 11=PP:=HU2.holds 11 (by decide)
        have tb48:=(Rg.use_eval V fr 48 [(11,48)] (by rw [hz];decide)).trans v11
        show Rg.Does1 _ _ V (Rg.putUse V [(11,48)] fr) NW _
        exact Ob.rc_mv P7 (by rw [hPP] at tb48;simp only [execOp,tb48,hP7];go_simp) rfl rfl True.intro
       ·intro V S NW HM HU2 HE2
        have v12:V 12=P7:=HU2.holds 12 (by decide)
        have tb49:=(Rg.use_eval V fr 49 [(12,49),(10,47)] (by rw [hz];decide)).trans v12
        have tb47:=(Rg.use_eval V fr 47 [(12,49),(10,47)] (by rw [hz];decide)).trans rfl
        show Rg.Does1 _ _ V (Rg.putUse V [(12,49),(10,47)] fr) NW _
        have hbk:(ebx ge ⟨nd,x4,l⟩ dv nv).holds (V 15) NW (S 15):=HU2.holds 15 (by decide)
        have cl:NW.cell? ⟨ge,7,none⟩=some nv:=hbk.1.cell 7
        have fl:=hbk.1.frozen 7
        have h10:(nrow (l++[n])).holds (V 10) NW (S 10):=HU2.holds 10 (by decide)
        obtain ⟨A9,c9,e9,_,_⟩:=Tm.own_form h10.1
        have tb47b:=tb47.trans e9
        exact step_nput (n0:=15) (r:=10) ⟨nd,x4,l⟩ dv nv _ (l++[n]) e9 rfl (by decide) (by decide) hbk h10 (HU2.sep 10 (by decide) 15 (by decide) (by decide)) (HU2.lt 10 (by decide)) (fun x=>Rg.alias_none rfl V x) True.intro (by rw [hP7] at tb49;simp only [execOp,tb47b,tb49];go_simp)
      ·intro V S w2 HI
       have h13:(ebxN ge ⟨nd,x4,l⟩ dv (l++[n])).holds (V 13) w2 (S 13):=HI.get 13 (by decide) (by rfl)
       have h7:(rdF g XB w7 (.int .i64 ((Co.num 2 s7).1:Nat)) (Co.num 2 s7).2).holds (V 7) w2 (S 7):=HI.get 7 (by decide) (by rfl)
       have hmod:=HI.mod
       have hlv13:Rc.Live [(4,14),(7,16),(10,4),(10,9),(13,10),(13,15)] (fun i=>i<17) 13:=⟨by decide,fun k _ hk=>by simp at hk⟩
       have hlv7:Rc.Live [(4,14),(7,16),(10,4),(10,9),(13,10),(13,15)] (fun i=>i<17) 7:=⟨by decide,fun k _ hk=>by simp at hk⟩
       have hsep:=fun b h=>HI.sep 13 7 b hlv13 hlv7 (by decide) h
       have hlt13:=fun b=>HI.lt 13 b hlv13
       obtain ⟨_,nv2,hbx2,hno2,hsub⟩:=h13
       obtain ⟨_,hR2,hS7,hX2⟩:=h7
       have hgw:g<w.heap.size:=HW0.out
       have HGO:Hid (Tm.EIn ge dv nv2 ⟨nd,x4,l++[n]⟩ w2∧Rr g XB (Co.num 2 s7).2 w2∧Keeps w w2 g∧(∀ b,Tm.EnS ge dv nv2 b→w.heap.size≤b)∧Blk w2 nb 31 [.int .i64 ia,.int .i64 ka,.int .i64 la,.int .i64 za,.int .u64 (ta:Nat),.bool sa]):=by
        refine ⟨⟨hbx2,?_,hno2⟩,hR2,?_,fun b hb=>?_,?_⟩
        ·refine Tm.own_keep HE7.out.data fun b hb=>?_
         obtain ⟨_,hb1,cs1,hb2⟩:=Tm.own_blk HE7.out.data hb
         have hb3:=HU.out b (.inr (.inl hb))
         refine hmod.block b hb1 fun h9=>?_
         rcases h9 with h9|rfl|rfl|h9
         ·obtain ⟨_,_,cs2,hb4⟩:=Tm.own_blk HE7.out.names h9
          exact hb2.ne_ hb4 (by decide) rfl
         ·exact hb2.ne_ HE7.out.box (by decide) rfl
         ·omega
         ·have:=(HX.out b h9).1;omega
        ·have hk:=HK7w.out
         refine ⟨hmod.os.trans hk.os,hmod.tape.trans hk.tape,hmod.output.trans hk.output,Nat.le_trans hk.size hmod.size,fun k hk1 hk2=>?_⟩
         by_cases hxk:XB=some k
         ·exact (hX2 k hxk).2.trans (hk.block k hk1 hk2)
         ·refine (hmod.block k (Nat.lt_of_lt_of_le hk1 hk.size) fun h9=>?_).trans (hk.block k hk1 hk2)
          rcases h9 with h9|rfl|rfl|h9
          ·have:=HU.out k (.inr (.inr h9));omega
          ·have:=HU.out k (.inl rfl);omega
          ·exact hk2 rfl
          ·exact hxk h9
        ·rcases hb with rfl|hb|hb
         ·exact HU.out _ (.inl rfl)
         ·exact HU.out b (.inr (.inl hb))
         ·have h1:=hsub b hb
          rcases (hlt13 b h1).2 with (h9|rfl|rfl|h9)|h9
          ·exact HU.out b (.inr (.inr h9))
          ·exact HU.out _ (.inl rfl)
          ·exact absurd hS7 (hsep _ h1)
          ·exact absurd (hX2 b h9).1 (hsep _ h1)
          ·exact Nat.le_trans HK7w.out.size h9
        ·refine (hmod.block nb HNB7.out.lt fun h9=>?_).trans HNB7.out
         rcases h9 with h9|h9|h9|h9
         ·obtain ⟨_,_,cs2,hb4⟩:=Tm.own_blk HE7.out.names h9
          exact HNB7.out.ne_ hb4 (by decide) rfl
         ·exact HNB7.out.ne_ HE7.out.box (by decide) h9
         ·exact HNG.out.1 h9
         ·have h1:=(HX.out nb h9).1
          have h2:=HNG.out.2
          omega
       have HREL2:∀ P:Prop,((Tr.ldNames N [] s6=(Tr.ldNames (N-(l++[n]).length) x (Co.num 2 s7).2).map fun r=>((l++[n])++r.1,r.2))→P)→P:=fun P k=>k (by
        refine HREL _ fun hrel=>HXS _ fun hxs=>?_
        have h1:=left_is hrel hk (by rw [← hxs.1];exact HGL.out.1) (by rw [← hxs.1];exact HGL.out.2)
        rw [← hxs.1,← hxs.2,← hn] at h1
        exact h1)
       have hln:(l++[n]).length=l.length+1:=by simp
       have HLN:Hid ((l++[n]).length=l.length+1):=hln
       have HLK:Hid (l.length<N):=hk
       have hNb:N≤65535:=HNS.out
       clear hmod hlv13 hlv7 hsep hlt13 hbx2 hno2 hsub hR2 hS7 hX2 hgw HREL hln hn HXS H3 HE7 HR7 HK7w HNB7 hl1 hl2 hstr hPP hP7 hPG HI
       simp only [Rg.putList,Act.put,List.setIfInBounds_toArray,List.set_cons_zero,List.set_cons_succ,Nat.zero_add,Nat.reduceAdd]
       go_wp2_with fail
       go_roundw
       case rel=>exact ⟨l++[n],x,(Co.num 2 s7).2,nv2,_,rfl,rfl,by rw [HLN.out];go_num,by rw [HLN.out];exact HLK.out,HGO.out.1,HGO.out.2.1,HGO.out.2.2.1,HGO.out.2.2.2.1,HGO.out.2.2.2.2,HREL2⟩
       case measure =>
        have h9:l.length<N:=HLK.out
        simp
        omega
     ·have HGL:Hid (¬ (Pa.good x=true∧Tr.less last x=true)):=fun h9=>hless h9.2
      rcases Bool.eq_false_or_eq_true (Tr.less x last) with hlt9|hlt9
      ·have hl1:Op.bytesLess (strOf x).toList (strOf last).toList=true:=by rw [strOf_list,strOf_list];exact hlt9
       clear hgood hless hlt9
       go_wp2_with fail
       refine HQ.out _ _ ⟨HK7w.out,.inl ⟨_,rfl,HREL _ fun hrel=>HXS _ fun hxs=>HLD _ fun hld=>?_⟩⟩
       rw [hld,left_no hrel hk (by rw [← hxs.1];exact HGL.out)]
       rfl
      ·have hl1:Op.bytesLess (strOf x).toList (strOf last).toList=false:=by rw [strOf_list,strOf_list];exact hlt9
       have hl2:((strOf x).toList==(strOf last).toList)=true:=by rw [strOf_list,strOf_list,beq_iff_eq];exact Tr.less_tri hlt9 (by simpa using hless)
       clear hgood hless hlt9
       go_wp2_with fail
       refine HQ.out _ _ ⟨HK7w.out,.inl ⟨_,rfl,HREL _ fun hrel=>HXS _ fun hxs=>HLD _ fun hld=>?_⟩⟩
       rw [hld,left_no hrel hk (by rw [← hxs.1];exact HGL.out)]
       rfl
    ·have hgf:Pa.good x=false:=by simpa using hgood
     have HGL:Hid (¬ (Pa.good x=true∧Tr.less last x=true)):=fun h9=>hgood h9.1
     clear hgood
     rw [hgf]
     clear hgf
     go_wp2_with fail
     refine HQ.out _ _ ⟨HK7w.out,.inl ⟨_,rfl,HREL _ fun hrel=>HXS _ fun hxs=>HLD _ fun hld=>?_⟩⟩
     rw [hld,left_no hrel hk (by rw [← hxs.1];exact HGL.out)]
     rfl
   ·obtain rfl:l.length=N:=by omega
    have HLD2:∀ P:Prop,(Tr.ldEn s=(if (x4.length:Int)=za then some (⟨nd,x4,l⟩,sj) else none)→P)→P:=fun P k=>k (by
     refine HREL _ fun hrel=>HLD _ fun hld=>?_
     rw [hld,hrel,show l.length-l.length=0 by omega]
     show (((Tr.ldNames 0 last sj).map fun r=>(l++r.1,r.2)).bind _)=_
     unfold Tr.ldNames
     simp)
    clear HREL HLD
    obtain ⟨hd1,hd2,hd3⟩:=HNDX.out
    have c6:wr.drew.cell? ⟨ge,6,none⟩=some (.slice X4 x4.length c4):=by rw [← hd2];exact HE.out.box.cell 6
    have c3:wr.drew.cell? ⟨nb,3,none⟩=some (.int .i64 za):=HNBj.out.cell 3
    clear hd1 hd2 hd3
    obtain ⟨wd,hwd⟩:∃ wd,wd=wr.drew:=⟨_,rfl⟩
    have HKD:Hid (Keeps w wd g):=by rw [hwd];exact ⟨HKj.out.os,HKj.out.tape,HKj.out.output,HKj.out.size,HKj.out.block⟩
    have HED:Hid (Tm.EIn ge dv nv ⟨nd,x4,l⟩ wd):=by rw [hwd];exact HE.out.keep fun _ _=>rfl
    have HRD:Hid (Rr g XB sj wd):=by rw [hwd];exact HRj.out.keep (Nat.le_refl _) rfl fun _ _=>rfl
    go_upto_region 14 with (fail)
    refine wp_region_still_lit (by kernel_rfl) (by kernel_rfl) ?_
    have hdr:({ heap:=wr.heap,tape:=wr.tape,drawn:=wr.drawn+1,os:=wr.os,output:=wr.output }:World)=wr.drew:=rfl
    simp only [hdr]
    clear hdr HKj HE HRj HNBj
    rw [← hwd] at c6 c3 ⊢
    clear hwd
    repeat still_step
    refine wpStill_nil ?_
    obtain ⟨zb,hzb⟩:∃ zb,zb=((x4.length:Int)==za):=⟨_,rfl⟩
    rw [← hzb]
    have HZB:Hid (zb=((x4.length:Int)==za)):=hzb
    clear hzb c3 c6
    go_wp2_with fail
    cases zb
    ·refine HQ.out _ _ ⟨HKD.out,.inl ⟨_,rfl,HLD2 _ fun hld=>?_⟩⟩
     rw [hld,if_neg (beq_eq_false_iff_ne.1 HZB.out.symm)]
    ·refine HQ.out _ _ ⟨HKD.out,.inr ⟨⟨nd,x4,l⟩,sj,ge,dv,nv,HLD2 _ fun hld=>?_,rfl,HED.out,HU.out,HRD.out⟩⟩
     rw [hld,if_pos (beq_iff_eq.1 HZB.out.symm)]
 ·have hb:((why:Int)==0)=false:=by rw [beq_eq_false_iff_ne];omega
  have HWHY:Hid (¬ why=0):=hw
  clear hw HNG HNB HR3 HX HW0 HR
  go_wp2_with fail
  refine HQ.out _ _ ⟨HK3.out,.inl ⟨_,rfl,?_⟩⟩
  refine HLS _ fun hls=>HDN _ fun hdn=>?_
  unfold Tr.ldEn
  rw [← hls.1,hdn]
  exact if_pos HWHY.out
theorem entry_any (h:Rr g XB s w) (hx:∀ b,XB=some b→b<w.heap.size∧b≠g):Calls Tryz.prog 119 #[.pointer (some ⟨g,0,none⟩)] w (EntOut g XB s w):=entry_to (fun _ _ h=>h) h hx
end Ts
end Go.Proofs.YtbnpgakmhhfjkaaGreatDoor
