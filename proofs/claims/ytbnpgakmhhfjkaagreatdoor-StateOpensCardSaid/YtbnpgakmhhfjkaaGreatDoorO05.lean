/-
  OWN WORK. CpRd, CpOne, CpMake, NoDec, CpRefW, CpRefR, CpRefN, CpRefT, CpRefS, NoRefDec, CpWr, NoEnc, CpRefI, NoRefEnc, NoAs
-/
import Derived.Test.YtbnpgakmhhfjkaaGreatDoorO04
import Derived.Test.YtbnpgakmhhfjkaaGreatDoorO01
import Derived.Test.YtbnpgakmhhfjkaaGreatDoorO02
namespace Go.Proofs.YtbnpgakmhhfjkaaGreatDoor
open Go.RowKit Rc
def RowS (A:Option Addr) (L l:List UInt8) (X:Option Addr) (S:Nat→Prop) (w:World):Prop :=
 ∀ w':World,w.heap.size≤w'.heap.size→(∀ b,S b→w'.heap[b]?=w.heap[b]?)→Rd w' A L→Rd w' X l
theorem RowS.mono {A:Option Addr} {L l:List UInt8} {X:Option Addr} {S S':Nat→Prop} {w:World} (h:RowS A L l X S w) (hS:∀ b,S b→S' b):RowS A L l X S' w :=
 fun w2 h2 hb2 hr=>h w2 h2 (fun b hb=>hb2 b (hS b hb)) hr
theorem RowS.of_own {w:World} {B n:Nat} {v:Value} {l:List UInt8} (A:Option Addr) (L:List UInt8) (h:w.ownsRow B 5 1 v n (Lib.byteCells l)) (hn:l.length=n):∃ X c,v=.slice X l.length c∧l.length≤c∧RowS A L l X (fun b=>v.ownBlock=some b) w∧∀ b,v.ownBlock=some b→B≤b∧b<w.heap.size:=by
 subst hn
 obtain ⟨X,c,rfl,hc,hr⟩:=own_form h
 refine ⟨X,c,rfl,hc,fun w' hs hb _=>hr.keep (fun p hp hX=>?_) hs,fun b hb=>own_lt h hb⟩
 cases X with
 | none=>simp at hX
 | some a =>
   simp only [Option.map_some,Option.some.injEq] at hX
   unfold World.cell?
   rw [hb p.block (by show some a.block=_;rw [hX])]
abbrev RdAt:=Value→Option Addr→List UInt8→Co.Rs→(Nat→Prop)→World→Prop
def ROut (At:RdAt) (v:Value) (A:Option Addr) (L:List UInt8) (x:Value) (s:Co.Rs) (S:Nat→Prop) (w:World) (e:Ending) (w':World):Prop :=
 e=.returned x∧∃ S',At v A L s S' w'∧Mod w w' S∧∀ b,S' b→S b∨w.heap.size≤b
def RRow (At:RdAt) (v:Value) (A:Option Addr) (L:List UInt8) (r:List UInt8 × Co.Rs) (S:Nat→Prop) (w:World) (e:Ending) (w':World):Prop :=
 ∃ X c S' T,e=.returned (.slice X r.1.length c)∧r.1.length≤c∧RowS A L r.1 X T w'∧At v A L r.2 S' w'∧Mod w w' S∧(∀ b,S' b→S b∨w.heap.size≤b)∧(∀ b,T b→(S b∨w.heap.size≤b)∧b<w'.heap.size)
structure RFns where
 byte:Option FuncId
 short:Option FuncId
 long:Option FuncId
 flag:Option FuncId
 bytes:Option FuncId
 raw:Option FuncId
 left:Option FuncId
 fin:Option FuncId
def Apart (A:Option Addr) (L:List UInt8) (S:Nat→Prop):Prop:=0<L.length→∀ b,A.map (·.block)=some b→¬ S b
structure RSaid (f:RFns) where
 At:RdAt
 keep:∀ {v A L s S w w'},At v A L s S w→w.heap.size≤w'.heap.size→(∀ b,S b→w'.heap[b]?=w.heap[b]?)→At v A L s S w'
 lt:∀ {v A L s S w},At v A L s S w→∀ b,S b→b<w.heap.size
 ptr:∀ {v A L s S w},At v A L s S w→∃ a,v=.pointer (some a)
 byte:∀ {fn},f.byte=some fn→∀ {v A L s S w},At v A L s S w→Rd w A L→Apart A L S→Calls Tryz.prog fn #[v] w (ROut At v A L (.int .i64 ((Co.num 1 s).1:Nat)) (Co.num 1 s).2 S w)
 short:∀ {fn},f.short=some fn→∀ {v A L s S w},At v A L s S w→Rd w A L→Apart A L S→Calls Tryz.prog fn #[v] w (ROut At v A L (.int .i64 ((Co.num 2 s).1:Nat)) (Co.num 2 s).2 S w)
 long:∀ {fn},f.long=some fn→∀ {v A L s S w},At v A L s S w→Rd w A L→Apart A L S→Calls Tryz.prog fn #[v] w (ROut At v A L (.int .u64 ((Co.num 8 s).1:Nat)) (Co.num 8 s).2 S w)
 flag:∀ {fn},f.flag=some fn→∀ {v A L s S w},At v A L s S w→Rd w A L→Apart A L S→Calls Tryz.prog fn #[v] w (ROut At v A L (.bool (Co.flag s).1) (Co.flag s).2 S w)
 bytes:∀ {fn},f.bytes=some fn→∀ {v A L s S w},At v A L s S w→Rd w A L→Apart A L S→Calls Tryz.prog fn #[v] w (RRow At v A L (Co.bytes s) S w)
 raw:∀ {fn},f.raw=some fn→∀ {v A L s S w},At v A L s S w→Rd w A L→Apart A L S→∀ n:Int,-1000000≤n→n≤1000000→Calls Tryz.prog fn #[v,.int .i64 n] w (RRow At v A L (Co.raw n s) S w)
 left:∀ {fn},f.left=some fn→∀ {v A L s S w},At v A L s S w→Rd w A L→Apart A L S→Calls Tryz.prog fn #[v] w fun e w'=>e=.returned (.int .i64 (Co.left s:Nat))∧Below w.heap.size w w'
 fin:∀ {fn},f.fin=some fn→∀ {v A L s S w},At v A L s S w→Rd w A L→Apart A L S→Calls Tryz.prog fn #[v] w fun e w'=>e=.returned (.int .i64 (Co.fin s:Nat))∧Below w.heap.size w w'
end Go.Proofs.YtbnpgakmhhfjkaaGreatDoor
namespace Go.Proofs.YtbnpgakmhhfjkaaGreatDoor
open Go.RowKit Rc
structure One {f:RFns} (C:RSaid f) (v:Value) (A:Option Addr) (L:List UInt8) (W0:World) (X0:Nat→Prop) (s:Co.Rs) (B:Nat→Prop) (w:World):Prop where
 mod:Mod W0 w X0
 rd0:Rd W0 A L
 ap0:Apart A L X0
 at_:C.At v A L s B w
 sub:∀ b,B b→X0 b∨W0.heap.size≤b
section
variable {f:RFns} {C:RSaid f} {v:Value} {A:Option Addr} {L:List UInt8} {W0:World} {X0:Nat→Prop} {s:Co.Rs} {B:Nat→Prop} {w:World}
theorem One.rd (h:One C v A L W0 X0 s B w):Rd w A L:=h.rd0.mod h.mod h.ap0
theorem One.ap (h:One C v A L W0 X0 s B w):Apart A L B:=fun hl b hA hB=>by
 rcases h.sub b hB with h1|h1
 ·exact h.ap0 hl b hA h1
 ·obtain ⟨b',off,rfl,hlt,_⟩:=h.rd0 hl
  simp at hA
  omega
theorem One.more {w':World} {X:Nat→Prop} (h:Mod W0 w X0) (hm:Mod w w' X) (hX:∀ b,X b→X0 b∨W0.heap.size≤b):Mod W0 w' X0 :=
 ⟨hm.os.trans h.os,hm.tape.trans h.tape,hm.output.trans h.output,Nat.le_trans h.size hm.size,fun k hk hn=>(hm.block k (Nat.lt_of_lt_of_le hk h.size) fun hx=>by
  rcases hX k hx with h1|h1
  ·exact hn h1
  ·omega).trans (h.block k hk hn)⟩
theorem One.below {w':World} (h:One C v A L W0 X0 s B w) (hb:Below w.heap.size w w'):One C v A L W0 X0 s B w' :=
 ⟨One.more h.mod (Mod.of_below hb (fun _=>False)) (fun _ h=>h.elim),h.rd0,h.ap0,C.keep h.at_ hb.size (fun b hB=>hb.block b (C.lt h.at_ b hB)),h.sub⟩
theorem One.step {w':World} {s':Co.Rs} {B':Nat→Prop} (h:One C v A L W0 X0 s B w) (ha:C.At v A L s' B' w') (hm:Mod w w' B) (hs:∀ b,B' b→B b∨w.heap.size≤b):One C v A L W0 X0 s' B' w' :=
 ⟨One.more h.mod hm h.sub,h.rd0,h.ap0,ha,fun b hB=>(hs b hB).elim (h.sub b) (fun h1=>.inr (Nat.le_trans h.mod.size h1))⟩
def OneAt {f:RFns} (C:RSaid f) (v:Value) (A:Option Addr) (L:List UInt8) (W0:World) (X0:Nat→Prop) (s:Co.Rs) (w:World):Prop:=∃ B,One C v A L W0 X0 s B w
theorem OneAt.fin {fn:FuncId} (hf:f.fin=some fn) {n:Nat} (h:OneAt C v A L W0 X0 s w) (hr:Co.fin s=n):Calls Tryz.prog fn #[v] w fun e w'=>e=.returned (.int .i64 (n:Nat))∧Hid (OneAt C v A L W0 X0 s w'):=by
 obtain ⟨B,h⟩:=h
 exact (C.fin hf h.at_ h.rd h.ap).mono fun e w' ⟨he,hb⟩=>⟨by rw [he,hr],B,h.below hb⟩
theorem OneAt.mod (h:OneAt C v A L W0 X0 s w):Mod W0 w X0:=by obtain ⟨B,h⟩:=h;exact h.mod
end
def OneP {f:RFns} (C:RSaid f) (v:Value) (A:Option Addr) (L:List UInt8) (W0:World) (s:Co.Rs) (Q:Nat→Prop) (w:World):Prop :=
 ∃ B,One C v A L W0 (fun _=>False) s B w∧∀ b,Q b→¬ B b∧b<w.heap.size
section
variable {f:RFns} {C:RSaid f} {v:Value} {A:Option Addr} {L:List UInt8} {W0:World} {s:Co.Rs} {Q:Nat→Prop} {w:World}
theorem OneP.low (h:OneP C v A L W0 s Q w):Below W0.heap.size W0 w:=by obtain ⟨B,h,_⟩:=h;exact h.mod.below fun _ hf=>hf.elim
theorem OneP.of_one (h:OneAt C v A L W0 (fun _=>False) s w):OneP C v A L W0 s (fun b=>b<W0.heap.size) w:=by
 obtain ⟨B,h⟩:=h
 refine ⟨B,h,fun b hb=>⟨fun hB=>?_,Nat.lt_of_lt_of_le hb h.mod.size⟩⟩
 rcases h.sub b hB with h1|h1
 ·exact h1
 ·omega
theorem OneP.below {w':World} (h:OneP C v A L W0 s Q w) (hb:Below w.heap.size w w'):OneP C v A L W0 s Q w':=by
 obtain ⟨B,h,hQ⟩:=h
 exact ⟨B,h.below hb,fun b hb2=>⟨(hQ b hb2).1,Nat.lt_of_lt_of_le (hQ b hb2).2 hb.size⟩⟩
theorem OneP.made {w':World} (h:OneP C v A L W0 s Q w) (hb:Below w.heap.size w w') (g:Nat) (hg:w.heap.size≤g) (hg2:g<w'.heap.size):OneP C v A L W0 s (fun b=>b=g∨Q b) w':=by
 obtain ⟨B,h,hQ⟩:=h
 refine ⟨B,h.below hb,fun b hb2=>?_⟩
 rcases hb2 with rfl|hb2
 ·exact ⟨fun hB=>by have:=C.lt h.at_ b hB;omega,hg2⟩
 ·exact ⟨(hQ b hb2).1,Nat.lt_of_lt_of_le (hQ b hb2).2 hb.size⟩
theorem OneP.poke {w':World} (h:OneP C v A L W0 s Q w) (g:Nat) (hk:Keeps w w' g) (hg:Q g) (hW:W0.heap.size≤g):OneP C v A L W0 s Q w':=by
 obtain ⟨B,h,hQ⟩:=h
 refine ⟨B,⟨⟨hk.os.trans h.mod.os,hk.tape.trans h.mod.tape,hk.output.trans h.mod.output,Nat.le_trans h.mod.size hk.size,fun k hk2 hn=>(hk.block k (Nat.lt_of_lt_of_le hk2 h.mod.size) (fun e=>by injection e;omega)).trans (h.mod.block k hk2 hn)⟩,h.rd0,h.ap0,C.keep h.at_ hk.size (fun b hB=>hk.block b (C.lt h.at_ b hB) (fun e=>by injection e with e;subst e;exact (hQ _ hg).1 hB)),h.sub⟩,fun b hb=>⟨(hQ b hb).1,Nat.lt_of_lt_of_le (hQ b hb).2 hk.size⟩⟩
def OnePOut {f:RFns} (C:RSaid f) (v:Value) (A:Option Addr) (L:List UInt8) (W0:World) (x:Value) (s:Co.Rs) (Q:Nat→Prop) (w:World) (e:Ending) (w':World):Prop :=
 e=.returned x∧Hid (OneP C v A L W0 s Q w')∧Hid (∀ b,Q b→w'.heap[b]?=w.heap[b]?)
theorem OneP.of_out {B:Nat→Prop} {x:Value} {s':Co.Rs} {e:Ending} {w':World} (h:One C v A L W0 (fun _=>False) s B w) (hQ:∀ b,Q b→¬ B b∧b<w.heap.size) (ho:ROut C.At v A L x s' B w e w'):OnePOut C v A L W0 x s' Q w e w':=by
 obtain ⟨rfl,S',ha,hm,hs⟩:=ho
 refine ⟨rfl,⟨S',h.step ha hm hs,fun b hb=>⟨fun hB=>?_,Nat.lt_of_lt_of_le (hQ b hb).2 hm.size⟩⟩,fun b hb=>hm.block b (hQ b hb).2 (hQ b hb).1⟩
 rcases hs b hB with h1|h1
 ·exact (hQ b hb).1 h1
 ·have:=(hQ b hb).2
  omega
theorem OneP.byte {fn:FuncId} (hf:f.byte=some fn) {r:Nat} {s':Co.Rs} (h:OneP C v A L W0 s Q w) (hr:Co.num 1 s=(r,s')):Calls Tryz.prog fn #[v] w (OnePOut C v A L W0 (.int .i64 (r:Nat)) s' Q w):=by
 obtain ⟨B,h,hQ⟩:=h
 refine (C.byte hf h.at_ h.rd h.ap).mono fun e w' ho=>?_
 have:=OneP.of_out h hQ ho
 rwa [hr] at this
theorem OneP.short {fn:FuncId} (hf:f.short=some fn) {r:Nat} {s':Co.Rs} (h:OneP C v A L W0 s Q w) (hr:Co.num 2 s=(r,s')):Calls Tryz.prog fn #[v] w (OnePOut C v A L W0 (.int .i64 (r:Nat)) s' Q w):=by
 obtain ⟨B,h,hQ⟩:=h
 refine (C.short hf h.at_ h.rd h.ap).mono fun e w' ho=>?_
 have:=OneP.of_out h hQ ho
 rwa [hr] at this
theorem OneP.long {fn:FuncId} (hf:f.long=some fn) {r:Nat} {s':Co.Rs} (h:OneP C v A L W0 s Q w) (hr:Co.num 8 s=(r,s')):Calls Tryz.prog fn #[v] w (OnePOut C v A L W0 (.int .u64 (r:Nat)) s' Q w):=by
 obtain ⟨B,h,hQ⟩:=h
 refine (C.long hf h.at_ h.rd h.ap).mono fun e w' ho=>?_
 have:=OneP.of_out h hQ ho
 rwa [hr] at this
theorem OneP.flag {fn:FuncId} (hf:f.flag=some fn) {r:Bool} {s':Co.Rs} (h:OneP C v A L W0 s Q w) (hr:Co.flag s=(r,s')):Calls Tryz.prog fn #[v] w (OnePOut C v A L W0 (.bool r) s' Q w):=by
 obtain ⟨B,h,hQ⟩:=h
 refine (C.flag hf h.at_ h.rd h.ap).mono fun e w' ho=>?_
 have:=OneP.of_out h hQ ho
 rwa [hr] at this
theorem OneP.fin {fn:FuncId} (hf:f.fin=some fn) {n:Nat} (h:OneP C v A L W0 s Q w) (hr:Co.fin s=n):Calls Tryz.prog fn #[v] w fun e w'=>e=.returned (.int .i64 (n:Nat))∧Hid (Below w.heap.size w w'):=by
 obtain ⟨B,h,hQ⟩:=h
 exact (C.fin hf h.at_ h.rd h.ap).mono fun e w' ⟨he,hb⟩=>⟨by rw [he,hr],hb⟩
end
end Go.Proofs.YtbnpgakmhhfjkaaGreatDoor
namespace Go.Proofs.YtbnpgakmhhfjkaaGreatDoor
open Go.RowKit Rc
abbrev codecFns:RFns where
 byte:=some 137
 short:=some 118
 long:=some 77
 flag:=some 190
 bytes:=some 135
 raw:=some 80
 left:=some 79
 fin:=some 120
structure RMake (R:RSaid codecFns):Prop where
 new:∀ (w:World) (A:Option Addr) (L:List UInt8) (cap:Nat),Rd w A L→L.length≤cap→L.length≤140737488351232→Calls Tryz.prog 76 #[.slice A L.length cap] w fun e w'=>∃ v S,e=.returned v∧R.At v A L ⟨L,0⟩ S w'∧Below w.heap.size w w'∧∀ b,S b→w.heap.size≤b
theorem RMake.one {R:RSaid codecFns} (h:RMake R) (w:World) (A:Option Addr) (L:List UInt8) (cap:Nat) (hr:Rd w A L) (hc:L.length≤cap) (hl:L.length≤140737488351232):Calls Tryz.prog 76 #[.slice A L.length cap] w fun e w'=>∃ a,e=.returned (.pointer (some a))∧Hid (OneAt R (.pointer (some a)) A L w (fun _=>False) ⟨L,0⟩ w'):=by
 refine (h.new w A L cap hr hc hl).mono ?_
 rintro e w' ⟨v,S,rfl,hat,hb,hS⟩
 obtain ⟨a,rfl⟩:=R.ptr hat
 exact ⟨a,rfl,S,Mod.of_below hb _,hr,fun _ _ _ hf=>hf,hat,fun b h=>.inr (hS b h)⟩
theorem OneAt.low {f:RFns} {C:RSaid f} {v:Value} {A:Option Addr} {L:List UInt8} {W0 w:World} {s:Co.Rs} (h:OneAt C v A L W0 (fun _=>False) s w):Below W0.heap.size W0 w:=h.mod.below fun _ hf=>hf.elim
end Go.Proofs.YtbnpgakmhhfjkaaGreatDoor
namespace Go.Proofs.YtbnpgakmhhfjkaaGreatDoor
open Go.RowKit Rc
set_option maxHeartbeats 1500000 in
set_option maxRecDepth 100000 in
theorem dec_any (R:RSaid codecFns) (hM:RMake R) (w:World) (A:Option Addr) (L:List UInt8) (cap:Nat) (hr:Rd w A L) (hc:L.length≤cap) (hl:L.length≤140737488351232) :
    Calls Tryz.prog 158 #[.slice A L.length cap] w fun e w'=>e=.returned (.tuple #[(ndDec L).1.val,.int .i64 ((ndDec L).2:Nat)])∧Below w.heap.size w w':=by
 obtain ⟨a1,s1,h1⟩:∃ a s,Co.num 2 ⟨L,0⟩=(a,s):=⟨_,_,rfl⟩
 obtain ⟨a2,s2,h2⟩:∃ a s,Co.num 1 s1=(a,s):=⟨_,_,rfl⟩
 obtain ⟨a3,s3,h3⟩:∃ a s,Co.num 2 s2=(a,s):=⟨_,_,rfl⟩
 obtain ⟨a4,s4,h4⟩:∃ a s,Co.num 2 s3=(a,s):=⟨_,_,rfl⟩
 obtain ⟨a5,s5,h5⟩:∃ a s,Co.num 8 s4=(a,s):=⟨_,_,rfl⟩
 obtain ⟨a6,s6,h6⟩:∃ a s,Co.flag s5=(a,s):=⟨_,_,rfl⟩
 obtain ⟨f,hf⟩:∃ f,Co.fin s6=f:=⟨_,rfl⟩
 have HN:Hid (ndRead L=(⟨(a1:Nat),(a2:Nat),(a3:Nat),(a4:Nat),a5,a6⟩,s6)):=by show _=_;simp only [ndRead,h1,h2,h3,h4,h5,h6]
 have HY:Hid (f=0→Nd.right ⟨(a1:Nat),(a2:Nat),(a3:Nat),(a4:Nat),a5,a6⟩=true→ndDec L=(⟨(a1:Nat),(a2:Nat),(a3:Nat),(a4:Nat),a5,a6⟩,0)):=by
  show _→_→_
  intro h0 hr0
  unfold ndDec
  rw [HN.out,if_neg (by simp [hf,h0,hr0])]
 have HNO:Hid (f≠0∨Nd.right ⟨(a1:Nat),(a2:Nat),(a3:Nat),(a4:Nat),a5,a6⟩=false→ndDec L=(Nd.zero,12)):=by
  show _→_
  intro h0
  unfold ndDec
  rw [HN.out,if_pos (by rcases h0 with h0|h0 <;> simp [hf,h0])]
 have H1E:=Lib.hid h1
 have H2E:=Lib.hid h2
 have H3E:=Lib.hid h3
 have H4E:=Lib.hid h4
 have H5E:=Lib.hid h5
 have H6E:=Lib.hid h6
 have HFE:=Lib.hid hf
 clear h1 h2 h3 h4 h5 h6 hf HN
 have HRW:Hid (Rd (w.alloc (.cells #[.int .i64 0,.int .i64 0,.int .i64 0,.int .i64 0,.int .u64 0,.bool false] 31)) A L):=hr.below (below_new w _)
 have HR0:Hid (Blk (w.alloc (.cells #[.int .i64 0,.int .i64 0,.int .i64 0,.int .i64 0,.int .u64 0,.bool false] 31)) w.heap.size 31 [.int .i64 0,.int .i64 0,.int .i64 0,.int .i64 0,.int .u64 0,.bool false]):=Blk.new w _ _
 have HSZ:Hid ((w.alloc (.cells #[.int .i64 0,.int .i64 0,.int .i64 0,.int .i64 0,.int .u64 0,.bool false] 31)).heap.size=w.heap.size+1):=World.size_alloc _ _
 have HWB:Hid (Below w.heap.size w (w.alloc (.cells #[.int .i64 0,.int .i64 0,.int .i64 0,.int .i64 0,.int .u64 0,.bool false] 31))):=below_new w _
 have HC:=Lib.hid hc
 have HL:=Lib.hid hl
 clear hr hc hl
 go_enter Tryz.func158,Tryz.ntmps158
 go_wp2_with fail
 refine (hM.one _ A L cap HRW.out HC.out HL.out).mono ?_
 rintro e w1 ⟨ad,rfl,H0⟩
 obtain ⟨WA,hWA⟩:∃ WA,WA=(w.alloc (.cells #[.int .i64 0,.int .i64 0,.int .i64 0,.int .i64 0,.int .u64 0,.bool false] 31)):=⟨_,rfl⟩
 rw [← hWA] at H0 HR0 HSZ HWB
 clear hWA HRW HC HL
 have H1:Hid (OneP R (.pointer (some ad)) A L WA ⟨L,0⟩ (fun b=>b<WA.heap.size) w1):=OneP.of_one H0.out
 have HR1:Hid (Blk w1 w.heap.size 31 [.int .i64 0,.int .i64 0,.int .i64 0,.int .i64 0,.int .u64 0,.bool false]):=HR0.out.below (OneP.low H1.out) HR0.out.lt
 clear H0 HR0
 have HGW:Hid (WA.heap.size≤w1.heap.size):=(OneP.low H1.out).size
 have H2:Hid (OneP R (.pointer (some ad)) A L WA ⟨L,0⟩ (fun b=>b=w1.heap.size∨b<WA.heap.size) (w1.alloc (.cells #[.int .i64 0,.int .i64 0,.int .i64 0,.int .i64 0,.int .u64 0,.bool false] 31))):=H1.out.made (below_new w1 _) w1.heap.size (Nat.le_refl _) (by rw [World.size_alloc];omega)
 have HR2:Hid (Blk (w1.alloc (.cells #[.int .i64 0,.int .i64 0,.int .i64 0,.int .i64 0,.int .u64 0,.bool false] 31)) w.heap.size 31 [.int .i64 0,.int .i64 0,.int .i64 0,.int .i64 0,.int .u64 0,.bool false]):=HR1.out.alloc _
 have HG2:Hid (Blk (w1.alloc (.cells #[.int .i64 0,.int .i64 0,.int .i64 0,.int .i64 0,.int .u64 0,.bool false] 31)) w1.heap.size 31 [.int .i64 0,.int .i64 0,.int .i64 0,.int .i64 0,.int .u64 0,.bool false]):=Blk.new w1 _ _
 have HNE:Hid (w.heap.size≠w1.heap.size):=by show _≠_;have h1:=HGW.out;have h2:=HSZ.out;omega
 have HRI:Hid (w.heap.size<WA.heap.size):=by show _<_;have h2:=HSZ.out;omega
 clear H1 HR1
 go_wp2_with fail
 refine (OneP.short rfl H2.out H1E.out).mono ?_
 rintro e w3 ⟨rfl,K3,hk⟩
 have HG3x:Hid (Blk w3 w1.heap.size 31 [.int .i64 0,.int .i64 0,.int .i64 0,.int .i64 0,.int .u64 0,.bool false]):=(hk.out _ (.inl rfl)).trans HG2.out
 have HR3x:Hid (Blk w3 w.heap.size 31 [.int .i64 0,.int .i64 0,.int .i64 0,.int .i64 0,.int .u64 0,.bool false]):=(hk.out _ (.inr HRI.out)).trans HR2.out
 clear hk H2 HG2 HR2
 have c:=HG3x.out.cell 0
 have f0:=HG3x.out.frozen 0
 have H3:Hid (OneP R (.pointer (some ad)) A L WA s1 (fun b=>b=w1.heap.size∨b<WA.heap.size) (w3.setCell ⟨w1.heap.size,0,none⟩ (.int .i64 (a1:Nat)))):=K3.out.poke w1.heap.size ((Keeps.refl _ _).setCell _ _) (.inl rfl) HGW.out
 have HG3:Hid (Blk (w3.setCell ⟨w1.heap.size,0,none⟩ (.int .i64 (a1:Nat))) w1.heap.size 31 [.int .i64 (a1:Nat),.int .i64 0,.int .i64 0,.int .i64 0,.int .u64 0,.bool false]):=HG3x.out.set_ 0 (.int .i64 (a1:Nat))
 have HR3:Hid (Blk (w3.setCell ⟨w1.heap.size,0,none⟩ (.int .i64 (a1:Nat))) w.heap.size 31 [.int .i64 0,.int .i64 0,.int .i64 0,.int .i64 0,.int .u64 0,.bool false]):=HR3x.out.far HNE.out _
 clear K3 HG3x HR3x
 go_wp2_with fail
 clear c f0
 refine (OneP.byte rfl H3.out H2E.out).mono ?_
 rintro e w4 ⟨rfl,K4,hk⟩
 have HG4x:Hid (Blk w4 w1.heap.size 31 [.int .i64 (a1:Nat),.int .i64 0,.int .i64 0,.int .i64 0,.int .u64 0,.bool false]):=(hk.out _ (.inl rfl)).trans HG3.out
 have HR4x:Hid (Blk w4 w.heap.size 31 [.int .i64 0,.int .i64 0,.int .i64 0,.int .i64 0,.int .u64 0,.bool false]):=(hk.out _ (.inr HRI.out)).trans HR3.out
 clear hk H3 HG3 HR3
 have c:=HG4x.out.cell 1
 have f0:=HG4x.out.frozen 1
 have H4:Hid (OneP R (.pointer (some ad)) A L WA s2 (fun b=>b=w1.heap.size∨b<WA.heap.size) (w4.setCell ⟨w1.heap.size,1,none⟩ (.int .i64 (a2:Nat)))):=K4.out.poke w1.heap.size ((Keeps.refl _ _).setCell _ _) (.inl rfl) HGW.out
 have HG4:Hid (Blk (w4.setCell ⟨w1.heap.size,1,none⟩ (.int .i64 (a2:Nat))) w1.heap.size 31 [.int .i64 (a1:Nat),.int .i64 (a2:Nat),.int .i64 0,.int .i64 0,.int .u64 0,.bool false]):=HG4x.out.set_ 1 (.int .i64 (a2:Nat))
 have HR4:Hid (Blk (w4.setCell ⟨w1.heap.size,1,none⟩ (.int .i64 (a2:Nat))) w.heap.size 31 [.int .i64 0,.int .i64 0,.int .i64 0,.int .i64 0,.int .u64 0,.bool false]):=HR4x.out.far HNE.out _
 clear K4 HG4x HR4x
 go_wp2_with fail
 clear c f0
 refine (OneP.short rfl H4.out H3E.out).mono ?_
 rintro e w5 ⟨rfl,K5,hk⟩
 have HG5x:Hid (Blk w5 w1.heap.size 31 [.int .i64 (a1:Nat),.int .i64 (a2:Nat),.int .i64 0,.int .i64 0,.int .u64 0,.bool false]):=(hk.out _ (.inl rfl)).trans HG4.out
 have HR5x:Hid (Blk w5 w.heap.size 31 [.int .i64 0,.int .i64 0,.int .i64 0,.int .i64 0,.int .u64 0,.bool false]):=(hk.out _ (.inr HRI.out)).trans HR4.out
 clear hk H4 HG4 HR4
 have c:=HG5x.out.cell 2
 have f0:=HG5x.out.frozen 2
 have H5:Hid (OneP R (.pointer (some ad)) A L WA s3 (fun b=>b=w1.heap.size∨b<WA.heap.size) (w5.setCell ⟨w1.heap.size,2,none⟩ (.int .i64 (a3:Nat)))):=K5.out.poke w1.heap.size ((Keeps.refl _ _).setCell _ _) (.inl rfl) HGW.out
 have HG5:Hid (Blk (w5.setCell ⟨w1.heap.size,2,none⟩ (.int .i64 (a3:Nat))) w1.heap.size 31 [.int .i64 (a1:Nat),.int .i64 (a2:Nat),.int .i64 (a3:Nat),.int .i64 0,.int .u64 0,.bool false]):=HG5x.out.set_ 2 (.int .i64 (a3:Nat))
 have HR5:Hid (Blk (w5.setCell ⟨w1.heap.size,2,none⟩ (.int .i64 (a3:Nat))) w.heap.size 31 [.int .i64 0,.int .i64 0,.int .i64 0,.int .i64 0,.int .u64 0,.bool false]):=HR5x.out.far HNE.out _
 clear K5 HG5x HR5x
 go_wp2_with fail
 clear c f0
 refine (OneP.short rfl H5.out H4E.out).mono ?_
 rintro e w6 ⟨rfl,K6,hk⟩
 have HG6x:Hid (Blk w6 w1.heap.size 31 [.int .i64 (a1:Nat),.int .i64 (a2:Nat),.int .i64 (a3:Nat),.int .i64 0,.int .u64 0,.bool false]):=(hk.out _ (.inl rfl)).trans HG5.out
 have HR6x:Hid (Blk w6 w.heap.size 31 [.int .i64 0,.int .i64 0,.int .i64 0,.int .i64 0,.int .u64 0,.bool false]):=(hk.out _ (.inr HRI.out)).trans HR5.out
 clear hk H5 HG5 HR5
 have c:=HG6x.out.cell 3
 have f0:=HG6x.out.frozen 3
 have H6:Hid (OneP R (.pointer (some ad)) A L WA s4 (fun b=>b=w1.heap.size∨b<WA.heap.size) (w6.setCell ⟨w1.heap.size,3,none⟩ (.int .i64 (a4:Nat)))):=K6.out.poke w1.heap.size ((Keeps.refl _ _).setCell _ _) (.inl rfl) HGW.out
 have HG6:Hid (Blk (w6.setCell ⟨w1.heap.size,3,none⟩ (.int .i64 (a4:Nat))) w1.heap.size 31 [.int .i64 (a1:Nat),.int .i64 (a2:Nat),.int .i64 (a3:Nat),.int .i64 (a4:Nat),.int .u64 0,.bool false]):=HG6x.out.set_ 3 (.int .i64 (a4:Nat))
 have HR6:Hid (Blk (w6.setCell ⟨w1.heap.size,3,none⟩ (.int .i64 (a4:Nat))) w.heap.size 31 [.int .i64 0,.int .i64 0,.int .i64 0,.int .i64 0,.int .u64 0,.bool false]):=HR6x.out.far HNE.out _
 clear K6 HG6x HR6x
 go_wp2_with fail
 clear c f0
 refine (OneP.long rfl H6.out H5E.out).mono ?_
 rintro e w7 ⟨rfl,K7,hk⟩
 have HG7x:Hid (Blk w7 w1.heap.size 31 [.int .i64 (a1:Nat),.int .i64 (a2:Nat),.int .i64 (a3:Nat),.int .i64 (a4:Nat),.int .u64 0,.bool false]):=(hk.out _ (.inl rfl)).trans HG6.out
 have HR7x:Hid (Blk w7 w.heap.size 31 [.int .i64 0,.int .i64 0,.int .i64 0,.int .i64 0,.int .u64 0,.bool false]):=(hk.out _ (.inr HRI.out)).trans HR6.out
 clear hk H6 HG6 HR6
 have c:=HG7x.out.cell 4
 have f0:=HG7x.out.frozen 4
 have H7:Hid (OneP R (.pointer (some ad)) A L WA s5 (fun b=>b=w1.heap.size∨b<WA.heap.size) (w7.setCell ⟨w1.heap.size,4,none⟩ (.int .u64 (a5:Nat)))):=K7.out.poke w1.heap.size ((Keeps.refl _ _).setCell _ _) (.inl rfl) HGW.out
 have HG7:Hid (Blk (w7.setCell ⟨w1.heap.size,4,none⟩ (.int .u64 (a5:Nat))) w1.heap.size 31 [.int .i64 (a1:Nat),.int .i64 (a2:Nat),.int .i64 (a3:Nat),.int .i64 (a4:Nat),.int .u64 (a5:Nat),.bool false]):=HG7x.out.set_ 4 (.int .u64 (a5:Nat))
 have HR7:Hid (Blk (w7.setCell ⟨w1.heap.size,4,none⟩ (.int .u64 (a5:Nat))) w.heap.size 31 [.int .i64 0,.int .i64 0,.int .i64 0,.int .i64 0,.int .u64 0,.bool false]):=HR7x.out.far HNE.out _
 clear K7 HG7x HR7x
 go_wp2_with fail
 clear c f0
 refine (OneP.flag rfl H7.out H6E.out).mono ?_
 rintro e w8 ⟨rfl,K8,hk⟩
 have HG8x:Hid (Blk w8 w1.heap.size 31 [.int .i64 (a1:Nat),.int .i64 (a2:Nat),.int .i64 (a3:Nat),.int .i64 (a4:Nat),.int .u64 (a5:Nat),.bool false]):=(hk.out _ (.inl rfl)).trans HG7.out
 have HR8x:Hid (Blk w8 w.heap.size 31 [.int .i64 0,.int .i64 0,.int .i64 0,.int .i64 0,.int .u64 0,.bool false]):=(hk.out _ (.inr HRI.out)).trans HR7.out
 clear hk H7 HG7 HR7
 have c:=HG8x.out.cell 5
 have f0:=HG8x.out.frozen 5
 have H8:Hid (OneP R (.pointer (some ad)) A L WA s6 (fun b=>b=w1.heap.size∨b<WA.heap.size) (w8.setCell ⟨w1.heap.size,5,none⟩ (.bool a6))):=K8.out.poke w1.heap.size ((Keeps.refl _ _).setCell _ _) (.inl rfl) HGW.out
 have HG8:Hid (Blk (w8.setCell ⟨w1.heap.size,5,none⟩ (.bool a6)) w1.heap.size 31 [.int .i64 (a1:Nat),.int .i64 (a2:Nat),.int .i64 (a3:Nat),.int .i64 (a4:Nat),.int .u64 (a5:Nat),.bool a6]):=HG8x.out.set_ 5 (.bool a6)
 have HR8:Hid (Blk (w8.setCell ⟨w1.heap.size,5,none⟩ (.bool a6)) w.heap.size 31 [.int .i64 0,.int .i64 0,.int .i64 0,.int .i64 0,.int .u64 0,.bool false]):=HR8x.out.far HNE.out _
 clear K8 HG8x HR8x
 go_wp2_with fail
 clear c f0
 refine (OneP.fin rfl H8.out HFE.out).mono ?_
 rintro e we ⟨rfl,hb⟩
 have HE:Hid (OneP R _ A L WA s6 _ we):=H8.out.below hb.out
 have HGE:Hid (Blk we w1.heap.size 31 [.int .i64 (a1:Nat),.int .i64 (a2:Nat),.int .i64 (a3:Nat),.int .i64 (a4:Nat),.int .u64 (a5:Nat),.bool a6]):=HG8.out.below hb.out HG8.out.lt
 have HRE:Hid (Blk we w.heap.size 31 [.int .i64 0,.int .i64 0,.int .i64 0,.int .i64 0,.int .u64 0,.bool false]):=HR8.out.below hb.out HR8.out.lt
 have HLO:Hid (Below w.heap.size w we):=HWB.out.trans ((OneP.low HE.out).mono (by have h2:=HSZ.out;omega))
 clear hb HE H8 HG8 HR8
 by_cases h0:f=0
 ·subst h0
  have cz:((0:Nat):Int)=0:=rfl
  have HYY:Hid (∀ h,ndDec L=(⟨(a1:Nat),(a2:Nat),(a3:Nat),(a4:Nat),a5,a6⟩,0)):=HY.out rfl
  clear HY
  have d0:=HGE.out.cell 0
  have d1:=HGE.out.cell 1
  have d2:=HGE.out.cell 2
  have d3:=HGE.out.cell 3
  have d4:=HGE.out.cell 4
  have d5:=HGE.out.cell 5
  go_wp2_with fail
  clear d0 d1 d2 d3 d4 d5
  refine (right_any ⟨(a1:Nat),(a2:Nat),(a3:Nat),(a4:Nat),a5,a6⟩ _).mono ?_
  rintro e wr ⟨rfl,hb⟩
  have HG2:Hid (Blk wr w1.heap.size 31 [.int .i64 (a1:Nat),.int .i64 (a2:Nat),.int .i64 (a3:Nat),.int .i64 (a4:Nat),.int .u64 (a5:Nat),.bool a6]):=HGE.out.below hb HGE.out.lt
  have HR2:Hid (Blk wr w.heap.size 31 [.int .i64 0,.int .i64 0,.int .i64 0,.int .i64 0,.int .u64 0,.bool false]):=HRE.out.below hb HRE.out.lt
  have HL2:Hid (Below w.heap.size w wr):=HLO.out.trans (hb.mono HLO.out.size)
  clear hb HGE HRE HLO
  cases hb:Nd.right ⟨(a1:Nat),(a2:Nat),(a3:Nat),(a4:Nat),a5,a6⟩
  ·have HAN:=Lib.hid (HNO.out (.inr hb))
   clear hb
   have d0:=HR2.out.cell 0
   have f0:=HR2.out.frozen 0
   have d1:=HR2.out.cell 1
   have f1:=HR2.out.frozen 1
   have d2:=HR2.out.cell 2
   have f2:=HR2.out.frozen 2
   have d3:=HR2.out.cell 3
   have f3:=HR2.out.frozen 3
   have d4:=HR2.out.cell 4
   have f4:=HR2.out.frozen 4
   have d5:=HR2.out.cell 5
   have f5:=HR2.out.frozen 5
   go_wp2_with fail
   (try simp only [Exit.inBlock,Exit.then])
   refine bodyPost_ret (results_blk_tmp rfl _ _ w.heap.size 31 [.int .i64 0,.int .i64 0,.int .i64 0,.int .i64 0,.int .u64 0,.bool false] _ rfl (HR2.out.set6 _ _ _ _ _ _) rfl rfl rfl) rfl ⟨?_,?_⟩
   ·rw [HAN.out];rfl
   ·exact below_set6 HL2.out (Nat.le_refl _) _ _ _ _ _ _
  ·have HAN:=Lib.hid (HYY.out hb)
   clear hb
   have d0:=HR2.out.cell 0
   have f0:=HR2.out.frozen 0
   have g0:=HG2.out.cell 0
   have d1:=HR2.out.cell 1
   have f1:=HR2.out.frozen 1
   have g1:=HG2.out.cell 1
   have d2:=HR2.out.cell 2
   have f2:=HR2.out.frozen 2
   have g2:=HG2.out.cell 2
   have d3:=HR2.out.cell 3
   have f3:=HR2.out.frozen 3
   have g3:=HG2.out.cell 3
   have d4:=HR2.out.cell 4
   have f4:=HR2.out.frozen 4
   have g4:=HG2.out.cell 4
   have d5:=HR2.out.cell 5
   have f5:=HR2.out.frozen 5
   have g5:=HG2.out.cell 5
   go_wp2_with fail
   (try simp only [Exit.inBlock,Exit.then])
   refine bodyPost_ret (results_blk_tmp rfl _ _ w.heap.size 31 [.int .i64 (a1:Nat),.int .i64 (a2:Nat),.int .i64 (a3:Nat),.int .i64 (a4:Nat),.int .u64 (a5:Nat),.bool a6] _ rfl (HR2.out.set6 _ _ _ _ _ _) rfl rfl rfl) rfl ⟨?_,?_⟩
   ·rw [HAN.out];rfl
   ·exact below_set6 HL2.out (Nat.le_refl _) _ _ _ _ _ _
 ·have HAN:=Lib.hid (HNO.out (.inl h0))
  have h0i:(((f:Nat):Int) != 0)=true:=by simpa using h0
  have d0:=HRE.out.cell 0
  have f0:=HRE.out.frozen 0
  have d1:=HRE.out.cell 1
  have f1:=HRE.out.frozen 1
  have d2:=HRE.out.cell 2
  have f2:=HRE.out.frozen 2
  have d3:=HRE.out.cell 3
  have f3:=HRE.out.frozen 3
  have d4:=HRE.out.cell 4
  have f4:=HRE.out.frozen 4
  have d5:=HRE.out.cell 5
  have f5:=HRE.out.frozen 5
  go_wp2_with fail
  (try simp only [Exit.inBlock,Exit.then])
  refine bodyPost_ret (results_blk_tmp rfl _ _ w.heap.size 31 [.int .i64 0,.int .i64 0,.int .i64 0,.int .i64 0,.int .u64 0,.bool false] _ rfl (HRE.out.set6 _ _ _ _ _ _) rfl rfl rfl) rfl ⟨?_,?_⟩
  ·rw [HAN.out];rfl
  ·exact below_set6 HLO.out (Nat.le_refl _) _ _ _ _ _ _
end Go.Proofs.YtbnpgakmhhfjkaaGreatDoor
namespace Go.Proofs.YtbnpgakmhhfjkaaGreatDoor
open Go.RowKit
end Go.Proofs.YtbnpgakmhhfjkaaGreatDoor
namespace Go.Proofs.YtbnpgakmhhfjkaaGreatDoor
open Go.RowKit
def RHd (g:Nat) (T:TypeId) (A:Option Addr) (L:List UInt8) (cap:Nat) (s:Co.Rs) (w:World):Prop :=
 ∃ k,k≤L.length∧s.rem=L.drop k∧Blk w g T [.slice A L.length cap,.int .i64 (k:Nat),.int .i64 (s.why:Nat)]
end Go.Proofs.YtbnpgakmhhfjkaaGreatDoor
namespace Go.Proofs.YtbnpgakmhhfjkaaGreatDoor
open Go.RowKit
structure RIn (g:Nat) (T:TypeId) (A:Option Addr) (L:List UInt8) (cap:Nat) (s:Co.Rs) (w:World):Prop where
 hd:RHd g T A L cap s w
 rd:Rd w A L
 off:0<L.length→A.map (·.block)≠some g
 fits:L.length≤cap
 small:L.length≤1099511620000
theorem RHd.lt {g:Nat} {T:TypeId} {A:Option Addr} {L:List UInt8} {cap:Nat} {s:Co.Rs} {w:World} (h:RHd g T A L cap s w):g<w.heap.size:=by
 obtain ⟨_,_,_,h⟩:=h;exact h.lt
theorem RIn.below {g:Nat} {T:TypeId} {A:Option Addr} {L:List UInt8} {cap:Nat} {s:Co.Rs} {w w':World} (h:RIn g T A L cap s w) (hb:Below w.heap.size w w'):RIn g T A L cap s w':=by
 obtain ⟨⟨k,h1,h2,h3⟩,h4,h5,h6,h7⟩:=h
 exact ⟨⟨k,h1,h2,h3.below hb h3.lt⟩,h4.below hb,h5,h6,h7⟩
end Go.Proofs.YtbnpgakmhhfjkaaGreatDoor
namespace Go.Proofs.YtbnpgakmhhfjkaaGreatDoor
open Go.RowKit
end Go.Proofs.YtbnpgakmhhfjkaaGreatDoor
namespace Go.Proofs.YtbnpgakmhhfjkaaGreatDoor
open Go.RowKit Rc
end Go.Proofs.YtbnpgakmhhfjkaaGreatDoor
namespace Go.Proofs.YtbnpgakmhhfjkaaGreatDoor
open Go.RowKit Rc
end Go.Proofs.YtbnpgakmhhfjkaaGreatDoor
namespace Go.Proofs.YtbnpgakmhhfjkaaGreatDoor
open Go.RowKit Rc
def WAt (C:WSaid) (v:Value) (w0:World) (l:List UInt8) (w:World):Prop:=∃ S,C.At v l S w∧Below w0.heap.size w0 w∧∀ b,S b→w0.heap.size≤b
def WRet (C:WSaid) (v:Value) (w0:World) (l:List UInt8) (e:Ending) (w:World):Prop:=(∃ x,e=.returned x)∧Hid (WAt C v w0 l w)
section
variable {C:WSaid} {v:Value} {w0 w:World} {l:List UInt8}
theorem WAt.out {S:Nat→Prop} {l':List UInt8} {e:Ending} {w':World} (hb:Below w0.heap.size w0 w) (hS:∀ b,S b→w0.heap.size≤b) (h:WOut C.At v l' S w e w'):WRet C v w0 l' e w':=by
 obtain ⟨hx,S',hat,hm,hs⟩:=h
 exact ⟨hx,S',hat,wout_below hb hS hm,fun b h=>(hs b h).elim (hS b) (fun h=>Nat.le_trans hb.size h)⟩
theorem WAt.byte (h:WAt C v w0 l w) (hl:l.length≤1099511500000) (n:Nat) (hn:n≤9223372036854775807):Calls Tryz.prog 130 #[v,.int .i64 (n:Nat)] w (WRet C v w0 (l++Co.wByte n)):=by
 obtain ⟨S,hat,hb,hS⟩:=h
 exact (C.byte hat hl n hn).mono fun e w' h=>WAt.out hb hS h
theorem WAt.short (h:WAt C v w0 l w) (hl:l.length≤1099511500000) (n:Nat) (hn:n≤9223372036854775807):Calls Tryz.prog 72 #[v,.int .i64 (n:Nat)] w (WRet C v w0 (l++Co.wShort n)):=by
 obtain ⟨S,hat,hb,hS⟩:=h
 exact (C.short hat hl n hn).mono fun e w' h=>WAt.out hb hS h
theorem WAt.long (h:WAt C v w0 l w) (hl:l.length≤1099511500000) (n:Nat) (hn:n≤18446744073709551615):Calls Tryz.prog 68 #[v,.int .u64 (n:Nat)] w (WRet C v w0 (l++Co.wLong n)):=by
 obtain ⟨S,hat,hb,hS⟩:=h
 exact (C.long hat hl n hn).mono fun e w' h=>WAt.out hb hS h
theorem WAt.flag (h:WAt C v w0 l w) (hl:l.length≤1099511500000) (f:Bool):Calls Tryz.prog 132 #[v,.bool f] w (WRet C v w0 (l++Co.wFlag f)):=by
 obtain ⟨S,hat,hb,hS⟩:=h
 exact (C.flag hat hl f).mono fun e w' h=>WAt.out hb hS h
theorem WAt.bytes (h:WAt C v w0 l w) (hl:l.length≤1099511500000) (A:Option Addr) (x:List UInt8) (c:Nat) (hr:Rd w0 A x) (hc:x.length≤c) (hx:x.length≤1000000):Calls Tryz.prog 74 #[v,.slice A x.length c] w (WRet C v w0 (l++Co.wBytes x)):=by
 obtain ⟨S,hat,hb,hS⟩:=h
 refine (C.bytes hat hl A x c (hr.below hb) hc hx fun h0 b hA hB=>?_).mono fun e w' h=>WAt.out hb hS h
 obtain ⟨b',off,rfl,hlt,_⟩:=hr h0
 simp at hA
 have:=hS b hB
 omega
theorem WAt.low (h:WAt C v w0 l w):Below w0.heap.size w0 w:=by obtain ⟨_,_,h,_⟩:=h;exact h
theorem WAt.more {w':World} (h:WAt C v w0 l w) (hb:Below w.heap.size w w'):WAt C v w0 l w':=by
 obtain ⟨S,hat,hb0,hS⟩:=h
 exact ⟨S,C.keep hat hb.size (fun b hB=>hb.block b (C.lt hat b hB)),hb0.trans (hb.mono hb0.size),hS⟩
theorem WAt.bytes2 {w2:World} (h:WAt C v w0 l w) (hl:l.length≤1099511500000) (hb2:Below w.heap.size w w2) (A:Option Addr) (x:List UInt8) (c:Nat) (hr:Rd w2 A x) (hA:∀ b,A.map (·.block)=some b→w.heap.size≤b) (hc:x.length≤c) (hx:x.length≤1000000):Calls Tryz.prog 74 #[v,.slice A x.length c] w2 (WRet C v w0 (l++Co.wBytes x)):=by
 obtain ⟨S,hat,hb,hS⟩:=h
 refine (C.bytes (C.keep hat hb2.size (fun b hB=>hb2.block b (C.lt hat b hB))) hl A x c hr hc hx fun h0 b hA2 hB=>?_).mono fun e w' h=>WAt.out (hb.trans (hb2.mono hb.size)) hS h
 have:=hA b hA2
 have:=C.lt hat b hB
 omega
theorem WAt.done (h:WAt C v w0 l w):Calls Tryz.prog 71 #[v] w fun e w'=>∃ X c,e=.returned (.slice X l.length c)∧l.length≤c∧Hid (w'.ownsRow 0 5 1 (.slice X l.length c) l.length (Lib.byteCells l))∧Hid (∀ b,(Value.slice X l.length c).ownBlock=some b→w0.heap.size≤b)∧Hid (Below w.heap.size w w')∧Hid (WAt C v w0 l w'):=by
 have h':=h
 obtain ⟨S,hat,hb,hS⟩:=h
 refine (C.done hat).mono ?_
 rintro e w' ⟨x,rfl,hown,hb2,ho⟩
 obtain ⟨X,c,rfl,hc,hr⟩:=own_form hown
 exact ⟨X,c,rfl,hc,hown,fun b hb3=>(ho b hb3).elim (hS b) (fun h=>Nat.le_trans hb.size h),hb2,h'.more hb2⟩
theorem WAt.new (C:WSaid) (w:World):Calls Tryz.prog 67 #[] w fun e w'=>∃ a,e=.returned (.pointer (some a))∧Hid (WAt C (.pointer (some a)) w [] w'):=by
 refine (C.new w).mono ?_
 rintro e w' ⟨v,S,rfl,hat,hb,hS⟩
 obtain ⟨a,rfl⟩:=C.ptr hat
 exact ⟨a,rfl,S,hat,hb,hS⟩
end
end Go.Proofs.YtbnpgakmhhfjkaaGreatDoor
namespace Go.Proofs.YtbnpgakmhhfjkaaGreatDoor
open Go.RowKit Rc
theorem enc_no (n:Nd) (h:n.right=false) (w:World):Calls Tryz.prog 73 #[n.val] w fun e w'=>e=.returned (.tuple #[.slice none 0 0,.int .i64 12])∧Below w.heap.size w w':=by
 obtain ⟨id,kind,links,size,till,shut⟩:=n
 show Calls _ _ #[.agg #[.int .i64 id,.int .i64 kind,.int .i64 links,.int .i64 size,.int .u64 (till:Nat),.bool shut]] w _
 have HR:=Lib.hid h
 clear h
 go_enter Tryz.func73,Tryz.ntmps73
 go_wp2_with fail
 refine (right_any ⟨id,kind,links,size,till,shut⟩ _).mono ?_
 rintro e w1 ⟨rfl,hb⟩
 rw [HR.out]
 have HB:Hid (Below w.heap.size w w1):=(below_new w _).trans (hb.mono (by rw [World.size_alloc];omega))
 clear hb
 go_wp2_with fail
 go_ret2
 exact ⟨rfl,HB.out⟩
set_option maxHeartbeats 1000000 in
set_option maxRecDepth 100000 in
theorem enc_yes (C:WSaid) (n:Nd) (h:n.Right) (w:World):Calls Tryz.prog 73 #[n.val] w fun e w'=>∃ X c,e=.returned (.tuple #[.slice X 16 c,.int .i64 0])∧16≤c∧w'.ownsRow w.heap.size 5 1 (.slice X 16 c) 16 (Lib.byteCells n.bytes)∧Below w.heap.size w w':=by
 have HR:Hid (n.right=true):=by show _=_;simpa [Nd.right] using h
 obtain ⟨id,kind,links,size,till,shut⟩:=n
 obtain ⟨h1,h2,h3,h4,h5,h6,h7,h8⟩:=h
 simp only at h1 h2 h3 h4 h5 h6 h7 h8
 obtain ⟨i,rfl⟩:∃ i:Nat,id=i:=⟨id.toNat,by omega⟩
 obtain ⟨k,rfl⟩:∃ k:Nat,kind=k:=⟨kind.toNat,by omega⟩
 obtain ⟨l,rfl⟩:∃ l:Nat,links=l:=⟨links.toNat,by omega⟩
 obtain ⟨z,rfl⟩:∃ z:Nat,size=z:=⟨size.toNat,by omega⟩
 have hi:i≤9223372036854775807:=by omega
 have hk:k≤9223372036854775807:=by omega
 have hl:l≤9223372036854775807:=by omega
 have hz:z≤9223372036854775807:=by omega
 have ht:till≤18446744073709551615:=by omega
 have HE:Hid (Co.wShort i++Co.wByte k++Co.wShort l++Co.wShort z++Co.wLong till++Co.wFlag shut=Nd.bytes ⟨(i:Nat),(k:Nat),(l:Nat),(z:Nat),till,shut⟩):=by
  show _=_
  have e1:Nd.lo16 ((i:Nat):Int)=i:=by unfold Nd.lo16;omega
  have e2:Nd.lo8 ((k:Nat):Int)=k:=by unfold Nd.lo8;omega
  have e3:Nd.lo16 ((l:Nat):Int)=l:=by unfold Nd.lo16;omega
  have e4:Nd.lo16 ((z:Nat):Int)=z:=by unfold Nd.lo16;omega
  unfold Nd.bytes
  simp only [e1,e2,e3,e4,List.append_assoc]
 have HI:=Lib.hid hi
 have HK:=Lib.hid hk
 have HL:=Lib.hid hl
 have HZ:=Lib.hid hz
 have HT:=Lib.hid ht
 clear h1 h2 h3 h4 h5 h6 h7 h8 hi hk hl hz ht
 show Calls _ _ #[.agg #[.int .i64 (i:Nat),.int .i64 (k:Nat),.int .i64 (l:Nat),.int .i64 (z:Nat),.int .u64 (till:Nat),.bool shut]] w _
 have HBX:Hid (Blk (w.alloc (.cells #[.int .i64 (i:Nat),.int .i64 (k:Nat),.int .i64 (l:Nat),.int .i64 (z:Nat),.int .u64 (till:Nat),.bool shut] 31)) w.heap.size 31 [.int .i64 (i:Nat),.int .i64 (k:Nat),.int .i64 (l:Nat),.int .i64 (z:Nat),.int .u64 (till:Nat),.bool shut]):=Blk.new w _ _
 go_enter Tryz.func73,Tryz.ntmps73
 go_wp2_with fail
 refine (right_any ⟨(i:Nat),(k:Nat),(l:Nat),(z:Nat),till,shut⟩ _).mono ?_
 rintro e w1 ⟨rfl,hb⟩
 rw [HR.out]
 have HB:Hid (Below w.heap.size w w1):=(below_new w _).trans (hb.mono (by rw [World.size_alloc];omega))
 have HX:Hid (Blk w1 w.heap.size 31 [.int .i64 (i:Nat),.int .i64 (k:Nat),.int .i64 (l:Nat),.int .i64 (z:Nat),.int .u64 (till:Nat),.bool shut]):=HBX.out.below hb HBX.out.lt
 clear hb HBX
 go_wp2_with fail
 refine (WAt.new C w1).mono ?_
 rintro e w2 ⟨a,rfl,HW2⟩
 have c:=(HX.out.below (WAt.low HW2.out) HX.out.lt).cell 0
 go_wp2_with fail
 refine (WAt.short HW2.out (by simp []) i HI.out).mono ?_
 rintro e w3 ⟨⟨x3,rfl⟩,HW3⟩
 clear HW2 c
 have c:=(HX.out.below (WAt.low HW3.out) HX.out.lt).cell 1
 go_wp2_with fail
 refine (WAt.byte HW3.out (by simp [Co.wShort]) k HK.out).mono ?_
 rintro e w4 ⟨⟨x4,rfl⟩,HW4⟩
 clear HW3 c
 have c:=(HX.out.below (WAt.low HW4.out) HX.out.lt).cell 2
 go_wp2_with fail
 refine (WAt.short HW4.out (by simp [Co.wShort,Co.wByte]) l HL.out).mono ?_
 rintro e w5 ⟨⟨x5,rfl⟩,HW5⟩
 clear HW4 c
 have c:=(HX.out.below (WAt.low HW5.out) HX.out.lt).cell 3
 go_wp2_with fail
 refine (WAt.short HW5.out (by simp [Co.wShort,Co.wByte]) z HZ.out).mono ?_
 rintro e w6 ⟨⟨x6,rfl⟩,HW6⟩
 clear HW5 c
 have c:=(HX.out.below (WAt.low HW6.out) HX.out.lt).cell 4
 go_wp2_with fail
 refine (WAt.long HW6.out (by simp [Co.wShort,Co.wByte]) till HT.out).mono ?_
 rintro e w7 ⟨⟨x7,rfl⟩,HW7⟩
 clear HW6 c
 have c:=(HX.out.below (WAt.low HW7.out) HX.out.lt).cell 5
 go_wp2_with fail
 refine (WAt.flag HW7.out (by simp [Co.wShort,Co.wByte,Co.wLong_length]) shut).mono ?_
 rintro e w8 ⟨⟨x8,rfl⟩,HW8⟩
 clear HW7 c
 go_wp2_with fail
 refine (WAt.done HW8.out).mono ?_
 rintro e w9 ⟨X,c,rfl,hc,HO,HX2,HD,_⟩
 have hlen:([]++Co.wShort i++Co.wByte k++Co.wShort l++Co.wShort z++Co.wLong till++Co.wFlag shut:List UInt8).length=16:=by
  rw [List.nil_append,HE.out,Nd.bytes_length]
 have HC:Hid (16≤c):=by show 16≤c;rw [← hlen];exact hc
 have HOW:Hid (w9.ownsRow w.heap.size 5 1 (.slice X 16 c) 16 (Lib.byteCells (Nd.bytes ⟨(i:Nat),(k:Nat),(l:Nat),(z:Nat),till,shut⟩))):=by
  have h1:=HO.out
  rw [hlen,List.nil_append,HE.out] at h1
  have h2:=HX2.out
  rw [hlen] at h2
  exact own_up h1 fun b hb=>Nat.le_trans HB.out.size (h2 b hb)
 have HF:Hid (Below w.heap.size w w9):=HB.out.trans ((WAt.low HW8.out).trans (HD.out.mono (WAt.low HW8.out).size) |>.mono HB.out.size)
 rw [hlen]
 clear hlen hc HO HX2 HD HW8 HX HE
 go_wp2_with fail
 go_ret2
 exact ⟨X,c,rfl,HC.out,HOW.out,HF.out⟩
end Go.Proofs.YtbnpgakmhhfjkaaGreatDoor
namespace Go.Proofs.YtbnpgakmhhfjkaaGreatDoor
open Go.RowKit
end Go.Proofs.YtbnpgakmhhfjkaaGreatDoor
namespace Go.Proofs.YtbnpgakmhhfjkaaGreatDoor
open Go.RowKit
end Go.Proofs.YtbnpgakmhhfjkaaGreatDoor
namespace Go.Proofs.YtbnpgakmhhfjkaaGreatDoor
open Go.RowKit Rc
section
variable {id kind links size:Int} {till:Nat} {shut:Bool}
theorem enc_yes_as (C:WSaid) (w:World) (h:Nd.Right ⟨id,kind,links,size,till,shut⟩):Calls Tryz.prog 73 #[.agg #[.int .i64 id,.int .i64 kind,.int .i64 links,.int .i64 size,.int .u64 (till:Nat),.bool shut]] w fun e w'=>∃ X c,e=.returned (.tuple #[.slice X 16 c,.int .i64 0])∧16≤c∧Hid (w'.ownsRow w.heap.size 5 1 (.slice X 16 c) 16 (Lib.byteCells (Nd.bytes ⟨id,kind,links,size,till,shut⟩)))∧Hid (Rd w' X (Nd.bytes ⟨id,kind,links,size,till,shut⟩))∧Hid (Below w.heap.size w w'):=by
 refine (enc_yes C ⟨id,kind,links,size,till,shut⟩ h w).mono ?_
 rintro e w' ⟨X,c,rfl,hc,ho,hb⟩
 refine ⟨X,c,rfl,hc,ho,?_,hb⟩
 have hl:=Nd.bytes_length ⟨id,kind,links,size,till,shut⟩
 obtain ⟨X',c',e,_,hr⟩:=own_form (show w'.ownsRow w.heap.size 5 1 (.slice X 16 c) (Nd.bytes ⟨id,kind,links,size,till,shut⟩).length (Lib.byteCells (Nd.bytes ⟨id,kind,links,size,till,shut⟩)) from by rw [hl];exact ho)
 injection e with e1 e2 e3
 subst e1
 exact hr
end
end Go.Proofs.YtbnpgakmhhfjkaaGreatDoor
