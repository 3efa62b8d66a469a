/-
  OWN WORK. NoRight, CpSaid, CpRd, CpOne, CpMake, NoDec, CpRefW, CpRefR, CpRefN, CpRefT, CpRefS, NoRefDec, CpWr, NoEnc, CpRefI, NoRefEnc, NoAs, CpWCode, TsSave, TsPure
-/
import Derived.Test.YtjoedamiilgajaaGreatW01
import Derived.Test.YtjoedamiilgajaaGreatW02
import Derived.Test.YtjoedamiilgajaaGreatW05
import Derived.Test.YtjoedamiilgajaaGreatW03
import Derived.Lib.ConvBytes
import Derived.Test.YtjoedamiilgajaaGreatW17
namespace Go.Proofs.YtjoedamiilgajaaGreat
open Go.RowKit
theorem upTo_yes (x m:Int) (w:World) (h:0≤x∧x≤m):Calls Tryz.prog 149 #[.int .i64 x,.int .i64 m] w fun e w'=>e=.returned (.bool true)∧w=w':=by
 obtain ⟨h0,h1⟩:=h
 go_enter Tryz.func149,Tryz.ntmps149
 go_wp2
 go_ret
 exact ⟨rfl,rfl⟩
theorem upTo_no (x m:Int) (w:World) (h:¬ (0≤x∧x≤m)):Calls Tryz.prog 149 #[.int .i64 x,.int .i64 m] w fun e w'=>e=.returned (.bool false)∧w=w':=by
 by_cases h0:0≤x
 ·have h1:¬ x≤m:=fun hm=>h ⟨h0,hm⟩
  clear h
  go_enter Tryz.func149,Tryz.ntmps149
  go_wp2
  go_ret
  exact ⟨rfl,rfl⟩
 ·clear h
  go_enter Tryz.func149,Tryz.ntmps149
  go_wp2
  go_ret
  exact ⟨rfl,rfl⟩
theorem Nd.right_is (n:Nd) (b:Bool) (h:n.Right↔b=true):n.right=b:=by
 unfold Nd.right
 cases b
 ·simpa using h
 ·simpa using h
set_option maxHeartbeats 1000000 in
theorem right_any (n:Nd) (w:World):Calls Tryz.prog 117 #[n.val] w fun e w'=>e=.returned (.bool n.right)∧Below w.heap.size w w':=by
 obtain ⟨id,kind,links,size,till,shut⟩:=n
 show Calls _ _ #[.agg #[.int .i64 id,.int .i64 kind,.int .i64 links,.int .i64 size,.int .u64 (till:Nat),.bool shut]] w _
 have HYY:Hid (∀ h,Hid (Nd.right ⟨id,kind,links,size,till,shut⟩=true)):=Lib.hid (Nd.right_is ⟨id,kind,links,size,till,shut⟩ true)
 have HNN:Hid (∀ h,Hid (Nd.right ⟨id,kind,links,size,till,shut⟩=false)):=Lib.hid (Nd.right_is ⟨id,kind,links,size,till,shut⟩ false)
 by_cases h1:0≤id∧id≤65535
 ·by_cases h2:0≤links∧links≤65535
  ·by_cases k1:kind=1
   ·by_cases h3:0≤size∧size≤4096
    ·by_cases h4:(till:Int)≤1099511627776
     ·go_enter Tryz.func117,Tryz.ntmps117
      go_wp2_with fail
      refine (upTo_yes _ _ _ h1).mono ?_
      rintro e _ ⟨rfl,rfl⟩
      go_wp2_with fail
      refine (upTo_yes _ _ _ h2).mono ?_
      rintro e _ ⟨rfl,rfl⟩
      go_wp2_with fail
      refine (upTo_yes _ _ _ h3).mono ?_
      rintro e _ ⟨rfl,rfl⟩
      go_wp2_with fail
      go_ret
      refine ⟨congrArg (fun b=>Ending.returned (Value.bool b)) (Eq.trans ?_ (HYY.out (by simp [Nd.Right] <;> omega)).out.symm),below_new w _⟩;first|rfl|(simp <;> omega)
     ·go_enter Tryz.func117,Tryz.ntmps117
      go_wp2_with fail
      refine (upTo_yes _ _ _ h1).mono ?_
      rintro e _ ⟨rfl,rfl⟩
      go_wp2_with fail
      refine (upTo_yes _ _ _ h2).mono ?_
      rintro e _ ⟨rfl,rfl⟩
      go_wp2_with fail
      refine (upTo_yes _ _ _ h3).mono ?_
      rintro e _ ⟨rfl,rfl⟩
      go_wp2_with fail
      go_ret
      refine ⟨congrArg (fun b=>Ending.returned (Value.bool b)) (Eq.trans ?_ (HNN.out (by simp [Nd.Right] <;> omega)).out.symm),below_new w _⟩;first|rfl|(simp <;> omega)
    ·go_enter Tryz.func117,Tryz.ntmps117
     go_wp2_with fail
     refine (upTo_yes _ _ _ h1).mono ?_
     rintro e _ ⟨rfl,rfl⟩
     go_wp2_with fail
     refine (upTo_yes _ _ _ h2).mono ?_
     rintro e _ ⟨rfl,rfl⟩
     go_wp2_with fail
     refine (upTo_no _ _ _ h3).mono ?_
     rintro e _ ⟨rfl,rfl⟩
     go_wp2_with fail
     go_ret
     refine ⟨congrArg (fun b=>Ending.returned (Value.bool b)) (Eq.trans ?_ (HNN.out (by simp [Nd.Right] <;> omega)).out.symm),below_new w _⟩;first|rfl|(simp <;> omega)
   ·by_cases k2:kind=2
    ·by_cases h3:size=0
     ·by_cases h4:(till:Int)=0
      ·cases shut
       ·go_enter Tryz.func117,Tryz.ntmps117
        go_wp2_with fail
        refine (upTo_yes _ _ _ h1).mono ?_
        rintro e _ ⟨rfl,rfl⟩
        go_wp2_with fail
        refine (upTo_yes _ _ _ h2).mono ?_
        rintro e _ ⟨rfl,rfl⟩
        go_wp2_with fail
        go_ret
        refine ⟨congrArg (fun b=>Ending.returned (Value.bool b)) (Eq.trans ?_ (HNN.out (by simp [Nd.Right] <;> omega)).out.symm),below_new w _⟩;first|rfl|(simp <;> omega)
       ·go_enter Tryz.func117,Tryz.ntmps117
        go_wp2_with fail
        refine (upTo_yes _ _ _ h1).mono ?_
        rintro e _ ⟨rfl,rfl⟩
        go_wp2_with fail
        refine (upTo_yes _ _ _ h2).mono ?_
        rintro e _ ⟨rfl,rfl⟩
        go_wp2_with fail
        go_ret
        refine ⟨congrArg (fun b=>Ending.returned (Value.bool b)) (Eq.trans ?_ (HYY.out (by simp [Nd.Right] <;> omega)).out.symm),below_new w _⟩;first|rfl|(simp <;> omega)
      ·go_enter Tryz.func117,Tryz.ntmps117
       go_wp2_with fail
       refine (upTo_yes _ _ _ h1).mono ?_
       rintro e _ ⟨rfl,rfl⟩
       go_wp2_with fail
       refine (upTo_yes _ _ _ h2).mono ?_
       rintro e _ ⟨rfl,rfl⟩
       go_wp2_with fail
       go_ret
       refine ⟨congrArg (fun b=>Ending.returned (Value.bool b)) (Eq.trans ?_ (HNN.out (by simp [Nd.Right] <;> omega)).out.symm),below_new w _⟩;first|rfl|(simp <;> omega)
     ·go_enter Tryz.func117,Tryz.ntmps117
      go_wp2_with fail
      refine (upTo_yes _ _ _ h1).mono ?_
      rintro e _ ⟨rfl,rfl⟩
      go_wp2_with fail
      refine (upTo_yes _ _ _ h2).mono ?_
      rintro e _ ⟨rfl,rfl⟩
      go_wp2_with fail
      go_ret
      refine ⟨congrArg (fun b=>Ending.returned (Value.bool b)) (Eq.trans ?_ (HNN.out (by simp [Nd.Right] <;> omega)).out.symm),below_new w _⟩;first|rfl|(simp <;> omega)
    ·go_enter Tryz.func117,Tryz.ntmps117
     go_wp2_with fail
     refine (upTo_yes _ _ _ h1).mono ?_
     rintro e _ ⟨rfl,rfl⟩
     go_wp2_with fail
     refine (upTo_yes _ _ _ h2).mono ?_
     rintro e _ ⟨rfl,rfl⟩
     go_wp2_with fail
     go_ret
     refine ⟨congrArg (fun b=>Ending.returned (Value.bool b)) (Eq.trans ?_ (HNN.out (by simp [Nd.Right] <;> omega)).out.symm),below_new w _⟩;first|rfl|(simp <;> omega)
  ·go_enter Tryz.func117,Tryz.ntmps117
   go_wp2_with fail
   refine (upTo_yes _ _ _ h1).mono ?_
   rintro e _ ⟨rfl,rfl⟩
   go_wp2_with fail
   refine (upTo_no _ _ _ h2).mono ?_
   rintro e _ ⟨rfl,rfl⟩
   go_wp2_with fail
   go_ret
   refine ⟨congrArg (fun b=>Ending.returned (Value.bool b)) (Eq.trans ?_ (HNN.out (by simp [Nd.Right] <;> omega)).out.symm),below_new w _⟩;first|rfl|(simp <;> omega)
 ·go_enter Tryz.func117,Tryz.ntmps117
  go_wp2_with fail
  refine (upTo_no _ _ _ h1).mono ?_
  rintro e _ ⟨rfl,rfl⟩
  go_wp2_with fail
  go_ret
  refine ⟨congrArg (fun b=>Ending.returned (Value.bool b)) (Eq.trans ?_ (HNN.out (by simp [Nd.Right] <;> omega)).out.symm),below_new w _⟩;first|rfl|(simp <;> omega)
end Go.Proofs.YtjoedamiilgajaaGreat
namespace Go.Proofs.YtjoedamiilgajaaGreat
open Go.RowKit Rc
theorem Rd.mod {w w':World} {A:Option Addr} {l:List UInt8} {S:Nat→Prop} (h:Rd w A l) (hm:Mod w w' S) (hA:0<l.length→∀ b,A.map (·.block)=some b→¬ S b):Rd w' A l:=by
 intro hl
 exact h.keep (fun p hp hb=>by unfold World.cell?;rw [hm.block p.block hp (hA hl _ hb)]) hm.size hl
def WOut (At:Value→List UInt8→(Nat→Prop)→World→Prop) (v:Value) (l:List UInt8) (S:Nat→Prop) (w:World) (e:Ending) (w':World):Prop :=
 (∃ x,e=.returned x)∧∃ S',At v l S' w'∧Mod w w' S∧∀ b,S' b→S b∨w.heap.size≤b
structure WSaid where
 At:Value→List UInt8→(Nat→Prop)→World→Prop
 keep:∀ {v l S w w'},At v l S w→w.heap.size≤w'.heap.size→(∀ b,S b→w'.heap[b]?=w.heap[b]?)→At v l S w'
 lt:∀ {v l S w},At v l S w→∀ b,S b→b<w.heap.size
 ptr:∀ {v l S w},At v l S w→∃ a,v=.pointer (some a)
 new:∀ w,Calls Tryz.prog 73 #[] w fun e w'=>∃ v S,e=.returned v∧At v [] S w'∧Below w.heap.size w w'∧∀ b,S b→w.heap.size≤b
 byte:∀ {v l S w},At v l S w→l.length≤1099511500000→∀ n:Nat,n≤9223372036854775807→Calls Tryz.prog 118 #[v,.int .i64 (n:Nat)] w (WOut At v (l++Co.wByte n) S w)
 short:∀ {v l S w},At v l S w→l.length≤1099511500000→∀ n:Nat,n≤9223372036854775807→Calls Tryz.prog 74 #[v,.int .i64 (n:Nat)] w (WOut At v (l++Co.wShort n) S w)
 long:∀ {v l S w},At v l S w→l.length≤1099511500000→∀ n:Nat,n≤18446744073709551615→Calls Tryz.prog 119 #[v,.int .u64 (n:Nat)] w (WOut At v (l++Co.wLong n) S w)
 flag:∀ {v l S w},At v l S w→l.length≤1099511500000→∀ f:Bool,Calls Tryz.prog 120 #[v,.bool f] w (WOut At v (l++Co.wFlag f) S w)
 bytes:∀ {v l S w},At v l S w→l.length≤1099511500000→∀ A x c,Rd w A x→x.length≤c→x.length≤1000000→(0<x.length→∀ b,A.map (·.block)=some b→¬ S b)→Calls Tryz.prog 76 #[v,.slice A x.length c] w (WOut At v (l++Co.wBytes x) S w)
 raw:∀ {v l S w},At v l S w→∀ A x c,Rd w A x→x.length≤c→l.length+x.length≤1099511600000→(0<x.length→∀ b,A.map (·.block)=some b→¬ S b)→Calls Tryz.prog 121 #[v,.slice A x.length c] w (WOut At v (l++x) S w)
 done:∀ {v l S w},At v l S w→Calls Tryz.prog 77 #[v] w fun e w'=>∃ x,e=.returned x∧w'.ownsRow 0 5 1 x l.length (Lib.byteCells l)∧Below w.heap.size w w'∧∀ b,x.ownBlock=some b→S b∨w.heap.size≤b
theorem wout_below {w w1 w2:World} {S:Nat→Prop} (h:Below w.heap.size w w1) (hS:∀ b,S b→w.heap.size≤b) (hm:Mod w1 w2 S):Below w.heap.size w w2 :=
 ((Mod.of_below h S).trans hm).below hS
end Go.Proofs.YtjoedamiilgajaaGreat
namespace Go.Proofs.YtjoedamiilgajaaGreat
open Go.RowKit Rc
def RowS (A:Option Addr) (L l:List UInt8) (X:Option Addr) (S:Nat→Prop) (w:World):Prop :=
 ∀ w':World,w.heap.size≤w'.heap.size→(∀ b,S b→w'.heap[b]?=w.heap[b]?)→Rd w' A L→Rd w' X l
theorem RowS.keep {A:Option Addr} {L l:List UInt8} {X:Option Addr} {S:Nat→Prop} {w w':World} (h:RowS A L l X S w) (hs:w.heap.size≤w'.heap.size) (hb:∀ b,S b→w'.heap[b]?=w.heap[b]?):RowS A L l X S w' :=
 fun w2 h2 hb2 hr=>h w2 (Nat.le_trans hs h2) (fun b hS=>(hb2 b hS).trans (hb b hS)) hr
theorem RowS.mono {A:Option Addr} {L l:List UInt8} {X:Option Addr} {S S':Nat→Prop} {w:World} (h:RowS A L l X S w) (hS:∀ b,S b→S' b):RowS A L l X S' w :=
 fun w2 h2 hb2 hr=>h w2 h2 (fun b hb=>hb2 b (hS b hb)) hr
theorem RowS.of_own {w:World} {B n:Nat} {v:Value} {l:List UInt8} (A:Option Addr) (L:List UInt8) (h:w.ownsRow B 5 1 v n (Lib.byteCells l)) (hn:l.length=n):∃ X c,v=.slice X l.length c∧l.length≤c∧RowS A L l X (fun b=>v.ownBlock=some b) w∧∀ b,v.ownBlock=some b→B≤b∧b<w.heap.size:=by
 subst hn
 obtain ⟨X,c,rfl,hc,hr⟩:=own_form h
 refine ⟨X,c,rfl,hc,fun w' hs hb _=>hr.keep (fun p hp hX=>?_) hs,fun b hb=>own_lt h hb⟩
 cases X with
 | none=>simp at hX
 | some a =>
   simp only [Option.map_some,Option.some.injEq] at hX
   unfold World.cell?
   rw [hb p.block (by show some a.block=_;rw [hX])]
abbrev RdAt:=Value→Option Addr→List UInt8→Co.Rs→(Nat→Prop)→World→Prop
def ROut (At:RdAt) (v:Value) (A:Option Addr) (L:List UInt8) (x:Value) (s:Co.Rs) (S:Nat→Prop) (w:World) (e:Ending) (w':World):Prop :=
 e=.returned x∧∃ S',At v A L s S' w'∧Mod w w' S∧∀ b,S' b→S b∨w.heap.size≤b
def RRow (At:RdAt) (v:Value) (A:Option Addr) (L:List UInt8) (r:List UInt8 × Co.Rs) (S:Nat→Prop) (w:World) (e:Ending) (w':World):Prop :=
 ∃ X c S' T,e=.returned (.slice X r.1.length c)∧r.1.length≤c∧RowS A L r.1 X T w'∧At v A L r.2 S' w'∧Mod w w' S∧(∀ b,S' b→S b∨w.heap.size≤b)∧(∀ b,T b→(S b∨w.heap.size≤b)∧b<w'.heap.size)
structure RFns where
 byte:Option FuncId
 short:Option FuncId
 long:Option FuncId
 flag:Option FuncId
 bytes:Option FuncId
 raw:Option FuncId
 left:Option FuncId
 fin:Option FuncId
def Apart (A:Option Addr) (L:List UInt8) (S:Nat→Prop):Prop:=0<L.length→∀ b,A.map (·.block)=some b→¬ S b
structure RSaid (f:RFns) where
 At:RdAt
 keep:∀ {v A L s S w w'},At v A L s S w→w.heap.size≤w'.heap.size→(∀ b,S b→w'.heap[b]?=w.heap[b]?)→At v A L s S w'
 lt:∀ {v A L s S w},At v A L s S w→∀ b,S b→b<w.heap.size
 ptr:∀ {v A L s S w},At v A L s S w→∃ a,v=.pointer (some a)
 byte:∀ {fn},f.byte=some fn→∀ {v A L s S w},At v A L s S w→Rd w A L→Apart A L S→Calls Tryz.prog fn #[v] w (ROut At v A L (.int .i64 ((Co.num 1 s).1:Nat)) (Co.num 1 s).2 S w)
 short:∀ {fn},f.short=some fn→∀ {v A L s S w},At v A L s S w→Rd w A L→Apart A L S→Calls Tryz.prog fn #[v] w (ROut At v A L (.int .i64 ((Co.num 2 s).1:Nat)) (Co.num 2 s).2 S w)
 long:∀ {fn},f.long=some fn→∀ {v A L s S w},At v A L s S w→Rd w A L→Apart A L S→Calls Tryz.prog fn #[v] w (ROut At v A L (.int .u64 ((Co.num 8 s).1:Nat)) (Co.num 8 s).2 S w)
 flag:∀ {fn},f.flag=some fn→∀ {v A L s S w},At v A L s S w→Rd w A L→Apart A L S→Calls Tryz.prog fn #[v] w (ROut At v A L (.bool (Co.flag s).1) (Co.flag s).2 S w)
 bytes:∀ {fn},f.bytes=some fn→∀ {v A L s S w},At v A L s S w→Rd w A L→Apart A L S→Calls Tryz.prog fn #[v] w (RRow At v A L (Co.bytes s) S w)
 raw:∀ {fn},f.raw=some fn→∀ {v A L s S w},At v A L s S w→Rd w A L→Apart A L S→∀ n:Int,-1000000≤n→n≤1000000→Calls Tryz.prog fn #[v,.int .i64 n] w (RRow At v A L (Co.raw n s) S w)
 left:∀ {fn},f.left=some fn→∀ {v A L s S w},At v A L s S w→Rd w A L→Apart A L S→Calls Tryz.prog fn #[v] w fun e w'=>e=.returned (.int .i64 (Co.left s:Nat))∧Below w.heap.size w w'
 fin:∀ {fn},f.fin=some fn→∀ {v A L s S w},At v A L s S w→Rd w A L→Apart A L S→Calls Tryz.prog fn #[v] w fun e w'=>e=.returned (.int .i64 (Co.fin s:Nat))∧Below w.heap.size w w'
end Go.Proofs.YtjoedamiilgajaaGreat
namespace Go.Proofs.YtjoedamiilgajaaGreat
open Go.RowKit Rc
structure One {f:RFns} (C:RSaid f) (v:Value) (A:Option Addr) (L:List UInt8) (W0:World) (X0:Nat→Prop) (s:Co.Rs) (B:Nat→Prop) (w:World):Prop where
 mod:Mod W0 w X0
 rd0:Rd W0 A L
 ap0:Apart A L X0
 at_:C.At v A L s B w
 sub:∀ b,B b→X0 b∨W0.heap.size≤b
section
variable {f:RFns} {C:RSaid f} {v:Value} {A:Option Addr} {L:List UInt8} {W0:World} {X0:Nat→Prop} {s:Co.Rs} {B:Nat→Prop} {w:World}
theorem One.rd (h:One C v A L W0 X0 s B w):Rd w A L:=h.rd0.mod h.mod h.ap0
theorem One.ap (h:One C v A L W0 X0 s B w):Apart A L B:=fun hl b hA hB=>by
 rcases h.sub b hB with h1|h1
 ·exact h.ap0 hl b hA h1
 ·obtain ⟨b',off,rfl,hlt,_⟩:=h.rd0 hl
  simp at hA
  omega
theorem One.more {w':World} {X:Nat→Prop} (h:Mod W0 w X0) (hm:Mod w w' X) (hX:∀ b,X b→X0 b∨W0.heap.size≤b):Mod W0 w' X0 :=
 ⟨hm.os.trans h.os,hm.tape.trans h.tape,hm.output.trans h.output,Nat.le_trans h.size hm.size,fun k hk hn=>(hm.block k (Nat.lt_of_lt_of_le hk h.size) fun hx=>by
  rcases hX k hx with h1|h1
  ·exact hn h1
  ·omega).trans (h.block k hk hn)⟩
theorem One.below {w':World} (h:One C v A L W0 X0 s B w) (hb:Below w.heap.size w w'):One C v A L W0 X0 s B w' :=
 ⟨One.more h.mod (Mod.of_below hb (fun _=>False)) (fun _ h=>h.elim),h.rd0,h.ap0,C.keep h.at_ hb.size (fun b hB=>hb.block b (C.lt h.at_ b hB)),h.sub⟩
theorem One.step {w':World} {s':Co.Rs} {B':Nat→Prop} (h:One C v A L W0 X0 s B w) (ha:C.At v A L s' B' w') (hm:Mod w w' B) (hs:∀ b,B' b→B b∨w.heap.size≤b):One C v A L W0 X0 s' B' w' :=
 ⟨One.more h.mod hm h.sub,h.rd0,h.ap0,ha,fun b hB=>(hs b hB).elim (h.sub b) (fun h1=>.inr (Nat.le_trans h.mod.size h1))⟩
def OneAt {f:RFns} (C:RSaid f) (v:Value) (A:Option Addr) (L:List UInt8) (W0:World) (X0:Nat→Prop) (s:Co.Rs) (w:World):Prop:=∃ B,One C v A L W0 X0 s B w
theorem OneAt.fin {fn:FuncId} (hf:f.fin=some fn) {n:Nat} (h:OneAt C v A L W0 X0 s w) (hr:Co.fin s=n):Calls Tryz.prog fn #[v] w fun e w'=>e=.returned (.int .i64 (n:Nat))∧Hid (OneAt C v A L W0 X0 s w'):=by
 obtain ⟨B,h⟩:=h
 exact (C.fin hf h.at_ h.rd h.ap).mono fun e w' ⟨he,hb⟩=>⟨by rw [he,hr],B,h.below hb⟩
end
def OneP {f:RFns} (C:RSaid f) (v:Value) (A:Option Addr) (L:List UInt8) (W0:World) (s:Co.Rs) (Q:Nat→Prop) (w:World):Prop :=
 ∃ B,One C v A L W0 (fun _=>False) s B w∧∀ b,Q b→¬ B b∧b<w.heap.size
section
variable {f:RFns} {C:RSaid f} {v:Value} {A:Option Addr} {L:List UInt8} {W0:World} {s:Co.Rs} {Q:Nat→Prop} {w:World}
theorem OneP.low (h:OneP C v A L W0 s Q w):Below W0.heap.size W0 w:=by obtain ⟨B,h,_⟩:=h;exact h.mod.below fun _ hf=>hf.elim
theorem OneP.of_one (h:OneAt C v A L W0 (fun _=>False) s w):OneP C v A L W0 s (fun b=>b<W0.heap.size) w:=by
 obtain ⟨B,h⟩:=h
 refine ⟨B,h,fun b hb=>⟨fun hB=>?_,Nat.lt_of_lt_of_le hb h.mod.size⟩⟩
 rcases h.sub b hB with h1|h1
 ·exact h1
 ·omega
theorem OneP.below {w':World} (h:OneP C v A L W0 s Q w) (hb:Below w.heap.size w w'):OneP C v A L W0 s Q w':=by
 obtain ⟨B,h,hQ⟩:=h
 exact ⟨B,h.below hb,fun b hb2=>⟨(hQ b hb2).1,Nat.lt_of_lt_of_le (hQ b hb2).2 hb.size⟩⟩
theorem OneP.made {w':World} (h:OneP C v A L W0 s Q w) (hb:Below w.heap.size w w') (g:Nat) (hg:w.heap.size≤g) (hg2:g<w'.heap.size):OneP C v A L W0 s (fun b=>b=g∨Q b) w':=by
 obtain ⟨B,h,hQ⟩:=h
 refine ⟨B,h.below hb,fun b hb2=>?_⟩
 rcases hb2 with rfl|hb2
 ·exact ⟨fun hB=>by have:=C.lt h.at_ b hB;omega,hg2⟩
 ·exact ⟨(hQ b hb2).1,Nat.lt_of_lt_of_le (hQ b hb2).2 hb.size⟩
theorem OneP.poke {w':World} (h:OneP C v A L W0 s Q w) (g:Nat) (hk:Keeps w w' g) (hg:Q g) (hW:W0.heap.size≤g):OneP C v A L W0 s Q w':=by
 obtain ⟨B,h,hQ⟩:=h
 refine ⟨B,⟨⟨hk.os.trans h.mod.os,hk.tape.trans h.mod.tape,hk.output.trans h.mod.output,Nat.le_trans h.mod.size hk.size,fun k hk2 hn=>(hk.block k (Nat.lt_of_lt_of_le hk2 h.mod.size) (fun e=>by injection e;omega)).trans (h.mod.block k hk2 hn)⟩,h.rd0,h.ap0,C.keep h.at_ hk.size (fun b hB=>hk.block b (C.lt h.at_ b hB) (fun e=>by injection e with e;subst e;exact (hQ _ hg).1 hB)),h.sub⟩,fun b hb=>⟨(hQ b hb).1,Nat.lt_of_lt_of_le (hQ b hb).2 hk.size⟩⟩
def OnePOut {f:RFns} (C:RSaid f) (v:Value) (A:Option Addr) (L:List UInt8) (W0:World) (x:Value) (s:Co.Rs) (Q:Nat→Prop) (w:World) (e:Ending) (w':World):Prop :=
 e=.returned x∧Hid (OneP C v A L W0 s Q w')∧Hid (∀ b,Q b→w'.heap[b]?=w.heap[b]?)
theorem OneP.of_out {B:Nat→Prop} {x:Value} {s':Co.Rs} {e:Ending} {w':World} (h:One C v A L W0 (fun _=>False) s B w) (hQ:∀ b,Q b→¬ B b∧b<w.heap.size) (ho:ROut C.At v A L x s' B w e w'):OnePOut C v A L W0 x s' Q w e w':=by
 obtain ⟨rfl,S',ha,hm,hs⟩:=ho
 refine ⟨rfl,⟨S',h.step ha hm hs,fun b hb=>⟨fun hB=>?_,Nat.lt_of_lt_of_le (hQ b hb).2 hm.size⟩⟩,fun b hb=>hm.block b (hQ b hb).2 (hQ b hb).1⟩
 rcases hs b hB with h1|h1
 ·exact (hQ b hb).1 h1
 ·have:=(hQ b hb).2
  omega
theorem OneP.byte {fn:FuncId} (hf:f.byte=some fn) {r:Nat} {s':Co.Rs} (h:OneP C v A L W0 s Q w) (hr:Co.num 1 s=(r,s')):Calls Tryz.prog fn #[v] w (OnePOut C v A L W0 (.int .i64 (r:Nat)) s' Q w):=by
 obtain ⟨B,h,hQ⟩:=h
 refine (C.byte hf h.at_ h.rd h.ap).mono fun e w' ho=>?_
 have:=OneP.of_out h hQ ho
 rwa [hr] at this
theorem OneP.short {fn:FuncId} (hf:f.short=some fn) {r:Nat} {s':Co.Rs} (h:OneP C v A L W0 s Q w) (hr:Co.num 2 s=(r,s')):Calls Tryz.prog fn #[v] w (OnePOut C v A L W0 (.int .i64 (r:Nat)) s' Q w):=by
 obtain ⟨B,h,hQ⟩:=h
 refine (C.short hf h.at_ h.rd h.ap).mono fun e w' ho=>?_
 have:=OneP.of_out h hQ ho
 rwa [hr] at this
theorem OneP.long {fn:FuncId} (hf:f.long=some fn) {r:Nat} {s':Co.Rs} (h:OneP C v A L W0 s Q w) (hr:Co.num 8 s=(r,s')):Calls Tryz.prog fn #[v] w (OnePOut C v A L W0 (.int .u64 (r:Nat)) s' Q w):=by
 obtain ⟨B,h,hQ⟩:=h
 refine (C.long hf h.at_ h.rd h.ap).mono fun e w' ho=>?_
 have:=OneP.of_out h hQ ho
 rwa [hr] at this
theorem OneP.flag {fn:FuncId} (hf:f.flag=some fn) {r:Bool} {s':Co.Rs} (h:OneP C v A L W0 s Q w) (hr:Co.flag s=(r,s')):Calls Tryz.prog fn #[v] w (OnePOut C v A L W0 (.bool r) s' Q w):=by
 obtain ⟨B,h,hQ⟩:=h
 refine (C.flag hf h.at_ h.rd h.ap).mono fun e w' ho=>?_
 have:=OneP.of_out h hQ ho
 rwa [hr] at this
theorem OneP.fin {fn:FuncId} (hf:f.fin=some fn) {n:Nat} (h:OneP C v A L W0 s Q w) (hr:Co.fin s=n):Calls Tryz.prog fn #[v] w fun e w'=>e=.returned (.int .i64 (n:Nat))∧Hid (Below w.heap.size w w'):=by
 obtain ⟨B,h,hQ⟩:=h
 exact (C.fin hf h.at_ h.rd h.ap).mono fun e w' ⟨he,hb⟩=>⟨by rw [he,hr],hb⟩
end
end Go.Proofs.YtjoedamiilgajaaGreat
namespace Go.Proofs.YtjoedamiilgajaaGreat
open Go.RowKit Rc
abbrev codecFns:RFns where
 byte:=some 164
 short:=some 98
 long:=some 165
 flag:=some 166
 bytes:=some 138
 raw:=some 167
 left:=none
 fin:=some 100
structure RMake (R:RSaid codecFns):Prop where
 new:∀ (w:World) (A:Option Addr) (L:List UInt8) (cap:Nat),Rd w A L→L.length≤cap→L.length≤140737488351232→Calls Tryz.prog 97 #[.slice A L.length cap] w fun e w'=>∃ v S,e=.returned v∧R.At v A L ⟨L,0⟩ S w'∧Below w.heap.size w w'∧∀ b,S b→w.heap.size≤b
theorem RMake.one {R:RSaid codecFns} (h:RMake R) (w:World) (A:Option Addr) (L:List UInt8) (cap:Nat) (hr:Rd w A L) (hc:L.length≤cap) (hl:L.length≤140737488351232):Calls Tryz.prog 97 #[.slice A L.length cap] w fun e w'=>∃ a,e=.returned (.pointer (some a))∧Hid (OneAt R (.pointer (some a)) A L w (fun _=>False) ⟨L,0⟩ w'):=by
 refine (h.new w A L cap hr hc hl).mono ?_
 rintro e w' ⟨v,S,rfl,hat,hb,hS⟩
 obtain ⟨a,rfl⟩:=R.ptr hat
 exact ⟨a,rfl,S,Mod.of_below hb _,hr,fun _ _ _ hf=>hf,hat,fun b h=>.inr (hS b h)⟩
end Go.Proofs.YtjoedamiilgajaaGreat
namespace Go.Proofs.YtjoedamiilgajaaGreat
open Go.RowKit Rc
set_option maxHeartbeats 1500000 in
set_option maxRecDepth 100000 in
theorem dec_any (R:RSaid codecFns) (hM:RMake R) (w:World) (A:Option Addr) (L:List UInt8) (cap:Nat) (hr:Rd w A L) (hc:L.length≤cap) (hl:L.length≤140737488351232) :
    Calls Tryz.prog 137 #[.slice A L.length cap] w fun e w'=>e=.returned (.tuple #[(ndDec L).1.val,.int .i64 ((ndDec L).2:Nat)])∧Below w.heap.size w w':=by
 obtain ⟨a1,s1,h1⟩:∃ a s,Co.num 2 ⟨L,0⟩=(a,s):=⟨_,_,rfl⟩
 obtain ⟨a2,s2,h2⟩:∃ a s,Co.num 1 s1=(a,s):=⟨_,_,rfl⟩
 obtain ⟨a3,s3,h3⟩:∃ a s,Co.num 2 s2=(a,s):=⟨_,_,rfl⟩
 obtain ⟨a4,s4,h4⟩:∃ a s,Co.num 2 s3=(a,s):=⟨_,_,rfl⟩
 obtain ⟨a5,s5,h5⟩:∃ a s,Co.num 8 s4=(a,s):=⟨_,_,rfl⟩
 obtain ⟨a6,s6,h6⟩:∃ a s,Co.flag s5=(a,s):=⟨_,_,rfl⟩
 obtain ⟨f,hf⟩:∃ f,Co.fin s6=f:=⟨_,rfl⟩
 have HN:Hid (ndRead L=(⟨(a1:Nat),(a2:Nat),(a3:Nat),(a4:Nat),a5,a6⟩,s6)):=by show _=_;simp only [ndRead,h1,h2,h3,h4,h5,h6]
 have HY:Hid (f=0→Nd.right ⟨(a1:Nat),(a2:Nat),(a3:Nat),(a4:Nat),a5,a6⟩=true→ndDec L=(⟨(a1:Nat),(a2:Nat),(a3:Nat),(a4:Nat),a5,a6⟩,0)):=by
  show _→_→_
  intro h0 hr0
  unfold ndDec
  rw [HN.out,if_neg (by simp [hf,h0,hr0])]
 have HNO:Hid (f≠0∨Nd.right ⟨(a1:Nat),(a2:Nat),(a3:Nat),(a4:Nat),a5,a6⟩=false→ndDec L=(Nd.zero,12)):=by
  show _→_
  intro h0
  unfold ndDec
  rw [HN.out,if_pos (by rcases h0 with h0|h0 <;> simp [hf,h0])]
 have H1E:=Lib.hid h1
 have H2E:=Lib.hid h2
 have H3E:=Lib.hid h3
 have H4E:=Lib.hid h4
 have H5E:=Lib.hid h5
 have H6E:=Lib.hid h6
 have HFE:=Lib.hid hf
 clear h1 h2 h3 h4 h5 h6 hf HN
 have HRW:Hid (Rd (w.alloc (.cells #[.int .i64 0,.int .i64 0,.int .i64 0,.int .i64 0,.int .u64 0,.bool false] 59)) A L):=hr.below (below_new w _)
 have HR0:Hid (Blk (w.alloc (.cells #[.int .i64 0,.int .i64 0,.int .i64 0,.int .i64 0,.int .u64 0,.bool false] 59)) w.heap.size 59 [.int .i64 0,.int .i64 0,.int .i64 0,.int .i64 0,.int .u64 0,.bool false]):=Blk.new w _ _
 have HSZ:Hid ((w.alloc (.cells #[.int .i64 0,.int .i64 0,.int .i64 0,.int .i64 0,.int .u64 0,.bool false] 59)).heap.size=w.heap.size+1):=World.size_alloc _ _
 have HWB:Hid (Below w.heap.size w (w.alloc (.cells #[.int .i64 0,.int .i64 0,.int .i64 0,.int .i64 0,.int .u64 0,.bool false] 59))):=below_new w _
 have HC:=Lib.hid hc
 have HL:=Lib.hid hl
 clear hr hc hl
 go_enter Tryz.func137,Tryz.ntmps137
 go_wp2_with fail
 refine (hM.one _ A L cap HRW.out HC.out HL.out).mono ?_
 rintro e w1 ⟨ad,rfl,H0⟩
 obtain ⟨WA,hWA⟩:∃ WA,WA=(w.alloc (.cells #[.int .i64 0,.int .i64 0,.int .i64 0,.int .i64 0,.int .u64 0,.bool false] 59)):=⟨_,rfl⟩
 rw [← hWA] at H0 HR0 HSZ HWB
 clear hWA HRW HC HL
 have H1:Hid (OneP R (.pointer (some ad)) A L WA ⟨L,0⟩ (fun b=>b<WA.heap.size) w1):=OneP.of_one H0.out
 have HR1:Hid (Blk w1 w.heap.size 59 [.int .i64 0,.int .i64 0,.int .i64 0,.int .i64 0,.int .u64 0,.bool false]):=HR0.out.below (OneP.low H1.out) HR0.out.lt
 clear H0 HR0
 have HGW:Hid (WA.heap.size≤w1.heap.size):=(OneP.low H1.out).size
 have H2:Hid (OneP R (.pointer (some ad)) A L WA ⟨L,0⟩ (fun b=>b=w1.heap.size∨b<WA.heap.size) (w1.alloc (.cells #[.int .i64 0,.int .i64 0,.int .i64 0,.int .i64 0,.int .u64 0,.bool false] 59))):=H1.out.made (below_new w1 _) w1.heap.size (Nat.le_refl _) (by rw [World.size_alloc];omega)
 have HR2:Hid (Blk (w1.alloc (.cells #[.int .i64 0,.int .i64 0,.int .i64 0,.int .i64 0,.int .u64 0,.bool false] 59)) w.heap.size 59 [.int .i64 0,.int .i64 0,.int .i64 0,.int .i64 0,.int .u64 0,.bool false]):=HR1.out.alloc _
 have HG2:Hid (Blk (w1.alloc (.cells #[.int .i64 0,.int .i64 0,.int .i64 0,.int .i64 0,.int .u64 0,.bool false] 59)) w1.heap.size 59 [.int .i64 0,.int .i64 0,.int .i64 0,.int .i64 0,.int .u64 0,.bool false]):=Blk.new w1 _ _
 have HNE:Hid (w.heap.size≠w1.heap.size):=by show _≠_;have h1:=HGW.out;have h2:=HSZ.out;omega
 have HRI:Hid (w.heap.size<WA.heap.size):=by show _<_;have h2:=HSZ.out;omega
 clear H1 HR1
 go_wp2_with fail
 refine (OneP.short rfl H2.out H1E.out).mono ?_
 rintro e w3 ⟨rfl,K3,hk⟩
 have HG3x:Hid (Blk w3 w1.heap.size 59 [.int .i64 0,.int .i64 0,.int .i64 0,.int .i64 0,.int .u64 0,.bool false]):=(hk.out _ (.inl rfl)).trans HG2.out
 have HR3x:Hid (Blk w3 w.heap.size 59 [.int .i64 0,.int .i64 0,.int .i64 0,.int .i64 0,.int .u64 0,.bool false]):=(hk.out _ (.inr HRI.out)).trans HR2.out
 clear hk H2 HG2 HR2
 have c:=HG3x.out.cell 0
 have f0:=HG3x.out.frozen 0
 have H3:Hid (OneP R (.pointer (some ad)) A L WA s1 (fun b=>b=w1.heap.size∨b<WA.heap.size) (w3.setCell ⟨w1.heap.size,0,none⟩ (.int .i64 (a1:Nat)))):=K3.out.poke w1.heap.size ((Keeps.refl _ _).setCell _ _) (.inl rfl) HGW.out
 have HG3:Hid (Blk (w3.setCell ⟨w1.heap.size,0,none⟩ (.int .i64 (a1:Nat))) w1.heap.size 59 [.int .i64 (a1:Nat),.int .i64 0,.int .i64 0,.int .i64 0,.int .u64 0,.bool false]):=HG3x.out.set_ 0 (.int .i64 (a1:Nat))
 have HR3:Hid (Blk (w3.setCell ⟨w1.heap.size,0,none⟩ (.int .i64 (a1:Nat))) w.heap.size 59 [.int .i64 0,.int .i64 0,.int .i64 0,.int .i64 0,.int .u64 0,.bool false]):=HR3x.out.far HNE.out _
 clear K3 HG3x HR3x
 go_wp2_with fail
 clear c f0
 refine (OneP.byte rfl H3.out H2E.out).mono ?_
 rintro e w4 ⟨rfl,K4,hk⟩
 have HG4x:Hid (Blk w4 w1.heap.size 59 [.int .i64 (a1:Nat),.int .i64 0,.int .i64 0,.int .i64 0,.int .u64 0,.bool false]):=(hk.out _ (.inl rfl)).trans HG3.out
 have HR4x:Hid (Blk w4 w.heap.size 59 [.int .i64 0,.int .i64 0,.int .i64 0,.int .i64 0,.int .u64 0,.bool false]):=(hk.out _ (.inr HRI.out)).trans HR3.out
 clear hk H3 HG3 HR3
 have c:=HG4x.out.cell 1
 have f0:=HG4x.out.frozen 1
 have H4:Hid (OneP R (.pointer (some ad)) A L WA s2 (fun b=>b=w1.heap.size∨b<WA.heap.size) (w4.setCell ⟨w1.heap.size,1,none⟩ (.int .i64 (a2:Nat)))):=K4.out.poke w1.heap.size ((Keeps.refl _ _).setCell _ _) (.inl rfl) HGW.out
 have HG4:Hid (Blk (w4.setCell ⟨w1.heap.size,1,none⟩ (.int .i64 (a2:Nat))) w1.heap.size 59 [.int .i64 (a1:Nat),.int .i64 (a2:Nat),.int .i64 0,.int .i64 0,.int .u64 0,.bool false]):=HG4x.out.set_ 1 (.int .i64 (a2:Nat))
 have HR4:Hid (Blk (w4.setCell ⟨w1.heap.size,1,none⟩ (.int .i64 (a2:Nat))) w.heap.size 59 [.int .i64 0,.int .i64 0,.int .i64 0,.int .i64 0,.int .u64 0,.bool false]):=HR4x.out.far HNE.out _
 clear K4 HG4x HR4x
 go_wp2_with fail
 clear c f0
 refine (OneP.short rfl H4.out H3E.out).mono ?_
 rintro e w5 ⟨rfl,K5,hk⟩
 have HG5x:Hid (Blk w5 w1.heap.size 59 [.int .i64 (a1:Nat),.int .i64 (a2:Nat),.int .i64 0,.int .i64 0,.int .u64 0,.bool false]):=(hk.out _ (.inl rfl)).trans HG4.out
 have HR5x:Hid (Blk w5 w.heap.size 59 [.int .i64 0,.int .i64 0,.int .i64 0,.int .i64 0,.int .u64 0,.bool false]):=(hk.out _ (.inr HRI.out)).trans HR4.out
 clear hk H4 HG4 HR4
 have c:=HG5x.out.cell 2
 have f0:=HG5x.out.frozen 2
 have H5:Hid (OneP R (.pointer (some ad)) A L WA s3 (fun b=>b=w1.heap.size∨b<WA.heap.size) (w5.setCell ⟨w1.heap.size,2,none⟩ (.int .i64 (a3:Nat)))):=K5.out.poke w1.heap.size ((Keeps.refl _ _).setCell _ _) (.inl rfl) HGW.out
 have HG5:Hid (Blk (w5.setCell ⟨w1.heap.size,2,none⟩ (.int .i64 (a3:Nat))) w1.heap.size 59 [.int .i64 (a1:Nat),.int .i64 (a2:Nat),.int .i64 (a3:Nat),.int .i64 0,.int .u64 0,.bool false]):=HG5x.out.set_ 2 (.int .i64 (a3:Nat))
 have HR5:Hid (Blk (w5.setCell ⟨w1.heap.size,2,none⟩ (.int .i64 (a3:Nat))) w.heap.size 59 [.int .i64 0,.int .i64 0,.int .i64 0,.int .i64 0,.int .u64 0,.bool false]):=HR5x.out.far HNE.out _
 clear K5 HG5x HR5x
 go_wp2_with fail
 clear c f0
 refine (OneP.short rfl H5.out H4E.out).mono ?_
 rintro e w6 ⟨rfl,K6,hk⟩
 have HG6x:Hid (Blk w6 w1.heap.size 59 [.int .i64 (a1:Nat),.int .i64 (a2:Nat),.int .i64 (a3:Nat),.int .i64 0,.int .u64 0,.bool false]):=(hk.out _ (.inl rfl)).trans HG5.out
 have HR6x:Hid (Blk w6 w.heap.size 59 [.int .i64 0,.int .i64 0,.int .i64 0,.int .i64 0,.int .u64 0,.bool false]):=(hk.out _ (.inr HRI.out)).trans HR5.out
 clear hk H5 HG5 HR5
 have c:=HG6x.out.cell 3
 have f0:=HG6x.out.frozen 3
 have H6:Hid (OneP R (.pointer (some ad)) A L WA s4 (fun b=>b=w1.heap.size∨b<WA.heap.size) (w6.setCell ⟨w1.heap.size,3,none⟩ (.int .i64 (a4:Nat)))):=K6.out.poke w1.heap.size ((Keeps.refl _ _).setCell _ _) (.inl rfl) HGW.out
 have HG6:Hid (Blk (w6.setCell ⟨w1.heap.size,3,none⟩ (.int .i64 (a4:Nat))) w1.heap.size 59 [.int .i64 (a1:Nat),.int .i64 (a2:Nat),.int .i64 (a3:Nat),.int .i64 (a4:Nat),.int .u64 0,.bool false]):=HG6x.out.set_ 3 (.int .i64 (a4:Nat))
 have HR6:Hid (Blk (w6.setCell ⟨w1.heap.size,3,none⟩ (.int .i64 (a4:Nat))) w.heap.size 59 [.int .i64 0,.int .i64 0,.int .i64 0,.int .i64 0,.int .u64 0,.bool false]):=HR6x.out.far HNE.out _
 clear K6 HG6x HR6x
 go_wp2_with fail
 clear c f0
 refine (OneP.long rfl H6.out H5E.out).mono ?_
 rintro e w7 ⟨rfl,K7,hk⟩
 have HG7x:Hid (Blk w7 w1.heap.size 59 [.int .i64 (a1:Nat),.int .i64 (a2:Nat),.int .i64 (a3:Nat),.int .i64 (a4:Nat),.int .u64 0,.bool false]):=(hk.out _ (.inl rfl)).trans HG6.out
 have HR7x:Hid (Blk w7 w.heap.size 59 [.int .i64 0,.int .i64 0,.int .i64 0,.int .i64 0,.int .u64 0,.bool false]):=(hk.out _ (.inr HRI.out)).trans HR6.out
 clear hk H6 HG6 HR6
 have c:=HG7x.out.cell 4
 have f0:=HG7x.out.frozen 4
 have H7:Hid (OneP R (.pointer (some ad)) A L WA s5 (fun b=>b=w1.heap.size∨b<WA.heap.size) (w7.setCell ⟨w1.heap.size,4,none⟩ (.int .u64 (a5:Nat)))):=K7.out.poke w1.heap.size ((Keeps.refl _ _).setCell _ _) (.inl rfl) HGW.out
 have HG7:Hid (Blk (w7.setCell ⟨w1.heap.size,4,none⟩ (.int .u64 (a5:Nat))) w1.heap.size 59 [.int .i64 (a1:Nat),.int .i64 (a2:Nat),.int .i64 (a3:Nat),.int .i64 (a4:Nat),.int .u64 (a5:Nat),.bool false]):=HG7x.out.set_ 4 (.int .u64 (a5:Nat))
 have HR7:Hid (Blk (w7.setCell ⟨w1.heap.size,4,none⟩ (.int .u64 (a5:Nat))) w.heap.size 59 [.int .i64 0,.int .i64 0,.int .i64 0,.int .i64 0,.int .u64 0,.bool false]):=HR7x.out.far HNE.out _
 clear K7 HG7x HR7x
 go_wp2_with fail
 clear c f0
 refine (OneP.flag rfl H7.out H6E.out).mono ?_
 rintro e w8 ⟨rfl,K8,hk⟩
 have HG8x:Hid (Blk w8 w1.heap.size 59 [.int .i64 (a1:Nat),.int .i64 (a2:Nat),.int .i64 (a3:Nat),.int .i64 (a4:Nat),.int .u64 (a5:Nat),.bool false]):=(hk.out _ (.inl rfl)).trans HG7.out
 have HR8x:Hid (Blk w8 w.heap.size 59 [.int .i64 0,.int .i64 0,.int .i64 0,.int .i64 0,.int .u64 0,.bool false]):=(hk.out _ (.inr HRI.out)).trans HR7.out
 clear hk H7 HG7 HR7
 have c:=HG8x.out.cell 5
 have f0:=HG8x.out.frozen 5
 have H8:Hid (OneP R (.pointer (some ad)) A L WA s6 (fun b=>b=w1.heap.size∨b<WA.heap.size) (w8.setCell ⟨w1.heap.size,5,none⟩ (.bool a6))):=K8.out.poke w1.heap.size ((Keeps.refl _ _).setCell _ _) (.inl rfl) HGW.out
 have HG8:Hid (Blk (w8.setCell ⟨w1.heap.size,5,none⟩ (.bool a6)) w1.heap.size 59 [.int .i64 (a1:Nat),.int .i64 (a2:Nat),.int .i64 (a3:Nat),.int .i64 (a4:Nat),.int .u64 (a5:Nat),.bool a6]):=HG8x.out.set_ 5 (.bool a6)
 have HR8:Hid (Blk (w8.setCell ⟨w1.heap.size,5,none⟩ (.bool a6)) w.heap.size 59 [.int .i64 0,.int .i64 0,.int .i64 0,.int .i64 0,.int .u64 0,.bool false]):=HR8x.out.far HNE.out _
 clear K8 HG8x HR8x
 go_wp2_with fail
 clear c f0
 refine (OneP.fin rfl H8.out HFE.out).mono ?_
 rintro e we ⟨rfl,hb⟩
 have HE:Hid (OneP R _ A L WA s6 _ we):=H8.out.below hb.out
 have HGE:Hid (Blk we w1.heap.size 59 [.int .i64 (a1:Nat),.int .i64 (a2:Nat),.int .i64 (a3:Nat),.int .i64 (a4:Nat),.int .u64 (a5:Nat),.bool a6]):=HG8.out.below hb.out HG8.out.lt
 have HRE:Hid (Blk we w.heap.size 59 [.int .i64 0,.int .i64 0,.int .i64 0,.int .i64 0,.int .u64 0,.bool false]):=HR8.out.below hb.out HR8.out.lt
 have HLO:Hid (Below w.heap.size w we):=HWB.out.trans ((OneP.low HE.out).mono (by have h2:=HSZ.out;omega))
 clear hb HE H8 HG8 HR8
 by_cases h0:f=0
 ·subst h0
  have cz:((0:Nat):Int)=0:=rfl
  have HYY:Hid (∀ h,ndDec L=(⟨(a1:Nat),(a2:Nat),(a3:Nat),(a4:Nat),a5,a6⟩,0)):=HY.out rfl
  clear HY
  have d0:=HGE.out.cell 0
  have d1:=HGE.out.cell 1
  have d2:=HGE.out.cell 2
  have d3:=HGE.out.cell 3
  have d4:=HGE.out.cell 4
  have d5:=HGE.out.cell 5
  go_wp2_with fail
  clear d0 d1 d2 d3 d4 d5
  refine (right_any ⟨(a1:Nat),(a2:Nat),(a3:Nat),(a4:Nat),a5,a6⟩ _).mono ?_
  rintro e wr ⟨rfl,hb⟩
  have HG2:Hid (Blk wr w1.heap.size 59 [.int .i64 (a1:Nat),.int .i64 (a2:Nat),.int .i64 (a3:Nat),.int .i64 (a4:Nat),.int .u64 (a5:Nat),.bool a6]):=HGE.out.below hb HGE.out.lt
  have HR2:Hid (Blk wr w.heap.size 59 [.int .i64 0,.int .i64 0,.int .i64 0,.int .i64 0,.int .u64 0,.bool false]):=HRE.out.below hb HRE.out.lt
  have HL2:Hid (Below w.heap.size w wr):=HLO.out.trans (hb.mono HLO.out.size)
  clear hb HGE HRE HLO
  cases hb:Nd.right ⟨(a1:Nat),(a2:Nat),(a3:Nat),(a4:Nat),a5,a6⟩
  ·have HAN:=Lib.hid (HNO.out (.inr hb))
   clear hb
   have d0:=HR2.out.cell 0
   have f0:=HR2.out.frozen 0
   have d1:=HR2.out.cell 1
   have f1:=HR2.out.frozen 1
   have d2:=HR2.out.cell 2
   have f2:=HR2.out.frozen 2
   have d3:=HR2.out.cell 3
   have f3:=HR2.out.frozen 3
   have d4:=HR2.out.cell 4
   have f4:=HR2.out.frozen 4
   have d5:=HR2.out.cell 5
   have f5:=HR2.out.frozen 5
   go_wp2_with fail
   (try simp only [Exit.inBlock,Exit.then])
   refine bodyPost_ret (results_blk_tmp rfl _ _ w.heap.size 59 [.int .i64 0,.int .i64 0,.int .i64 0,.int .i64 0,.int .u64 0,.bool false] _ rfl (HR2.out.set6 _ _ _ _ _ _) rfl rfl rfl) rfl ⟨?_,?_⟩
   ·rw [HAN.out];rfl
   ·exact below_set6 HL2.out (Nat.le_refl _) _ _ _ _ _ _
  ·have HAN:=Lib.hid (HYY.out hb)
   clear hb
   have d0:=HR2.out.cell 0
   have f0:=HR2.out.frozen 0
   have g0:=HG2.out.cell 0
   have d1:=HR2.out.cell 1
   have f1:=HR2.out.frozen 1
   have g1:=HG2.out.cell 1
   have d2:=HR2.out.cell 2
   have f2:=HR2.out.frozen 2
   have g2:=HG2.out.cell 2
   have d3:=HR2.out.cell 3
   have f3:=HR2.out.frozen 3
   have g3:=HG2.out.cell 3
   have d4:=HR2.out.cell 4
   have f4:=HR2.out.frozen 4
   have g4:=HG2.out.cell 4
   have d5:=HR2.out.cell 5
   have f5:=HR2.out.frozen 5
   have g5:=HG2.out.cell 5
   go_wp2_with fail
   (try simp only [Exit.inBlock,Exit.then])
   refine bodyPost_ret (results_blk_tmp rfl _ _ w.heap.size 59 [.int .i64 (a1:Nat),.int .i64 (a2:Nat),.int .i64 (a3:Nat),.int .i64 (a4:Nat),.int .u64 (a5:Nat),.bool a6] _ rfl (HR2.out.set6 _ _ _ _ _ _) rfl rfl rfl) rfl ⟨?_,?_⟩
   ·rw [HAN.out];rfl
   ·exact below_set6 HL2.out (Nat.le_refl _) _ _ _ _ _ _
 ·have HAN:=Lib.hid (HNO.out (.inl h0))
  have h0i:(((f:Nat):Int) != 0)=true:=by simpa using h0
  have d0:=HRE.out.cell 0
  have f0:=HRE.out.frozen 0
  have d1:=HRE.out.cell 1
  have f1:=HRE.out.frozen 1
  have d2:=HRE.out.cell 2
  have f2:=HRE.out.frozen 2
  have d3:=HRE.out.cell 3
  have f3:=HRE.out.frozen 3
  have d4:=HRE.out.cell 4
  have f4:=HRE.out.frozen 4
  have d5:=HRE.out.cell 5
  have f5:=HRE.out.frozen 5
  go_wp2_with fail
  (try simp only [Exit.inBlock,Exit.then])
  refine bodyPost_ret (results_blk_tmp rfl _ _ w.heap.size 59 [.int .i64 0,.int .i64 0,.int .i64 0,.int .i64 0,.int .u64 0,.bool false] _ rfl (HRE.out.set6 _ _ _ _ _ _) rfl rfl rfl) rfl ⟨?_,?_⟩
  ·rw [HAN.out];rfl
  ·exact below_set6 HLO.out (Nat.le_refl _) _ _ _ _ _ _
end Go.Proofs.YtjoedamiilgajaaGreat
namespace Go.Proofs.YtjoedamiilgajaaGreat
open Go.RowKit
end Go.Proofs.YtjoedamiilgajaaGreat
namespace Go.Proofs.YtjoedamiilgajaaGreat
open Go.RowKit
def RHd (g:Nat) (T:TypeId) (A:Option Addr) (L:List UInt8) (cap:Nat) (s:Co.Rs) (w:World):Prop :=
 ∃ k,k≤L.length∧s.rem=L.drop k∧Blk w g T [.slice A L.length cap,.int .i64 (k:Nat),.int .i64 (s.why:Nat)]
end Go.Proofs.YtjoedamiilgajaaGreat
namespace Go.Proofs.YtjoedamiilgajaaGreat
open Go.RowKit
theorem RHd.lt {g:Nat} {T:TypeId} {A:Option Addr} {L:List UInt8} {cap:Nat} {s:Co.Rs} {w:World} (h:RHd g T A L cap s w):g<w.heap.size:=by
 obtain ⟨_,_,_,h⟩:=h;exact h.lt
end Go.Proofs.YtjoedamiilgajaaGreat
namespace Go.Proofs.YtjoedamiilgajaaGreat
open Go.RowKit
end Go.Proofs.YtjoedamiilgajaaGreat
namespace Go.Proofs.YtjoedamiilgajaaGreat
open Go.RowKit Rc
theorem RHd.keep {g:Nat} {T:TypeId} {A:Option Addr} {L:List UInt8} {cap:Nat} {s:Co.Rs} {w w':World} (h:RHd g T A L cap s w) (hb:w'.heap[g]?=w.heap[g]?):RHd g T A L cap s w':=by
 obtain ⟨k,h1,h2,h3⟩:=h
 exact ⟨k,h1,h2,hb.trans h3⟩
end Go.Proofs.YtjoedamiilgajaaGreat
namespace Go.Proofs.YtjoedamiilgajaaGreat
open Go.RowKit Rc
end Go.Proofs.YtjoedamiilgajaaGreat
namespace Go.Proofs.YtjoedamiilgajaaGreat
open Go.RowKit Rc
def WAt (C:WSaid) (v:Value) (w0:World) (l:List UInt8) (w:World):Prop:=∃ S,C.At v l S w∧Below w0.heap.size w0 w∧∀ b,S b→w0.heap.size≤b
def WRet (C:WSaid) (v:Value) (w0:World) (l:List UInt8) (e:Ending) (w:World):Prop:=(∃ x,e=.returned x)∧Hid (WAt C v w0 l w)
section
variable {C:WSaid} {v:Value} {w0 w:World} {l:List UInt8}
theorem WAt.out {S:Nat→Prop} {l':List UInt8} {e:Ending} {w':World} (hb:Below w0.heap.size w0 w) (hS:∀ b,S b→w0.heap.size≤b) (h:WOut C.At v l' S w e w'):WRet C v w0 l' e w':=by
 obtain ⟨hx,S',hat,hm,hs⟩:=h
 exact ⟨hx,S',hat,wout_below hb hS hm,fun b h=>(hs b h).elim (hS b) (fun h=>Nat.le_trans hb.size h)⟩
theorem WAt.byte (h:WAt C v w0 l w) (hl:l.length≤1099511500000) (n:Nat) (hn:n≤9223372036854775807):Calls Tryz.prog 118 #[v,.int .i64 (n:Nat)] w (WRet C v w0 (l++Co.wByte n)):=by
 obtain ⟨S,hat,hb,hS⟩:=h
 exact (C.byte hat hl n hn).mono fun e w' h=>WAt.out hb hS h
theorem WAt.short (h:WAt C v w0 l w) (hl:l.length≤1099511500000) (n:Nat) (hn:n≤9223372036854775807):Calls Tryz.prog 74 #[v,.int .i64 (n:Nat)] w (WRet C v w0 (l++Co.wShort n)):=by
 obtain ⟨S,hat,hb,hS⟩:=h
 exact (C.short hat hl n hn).mono fun e w' h=>WAt.out hb hS h
theorem WAt.long (h:WAt C v w0 l w) (hl:l.length≤1099511500000) (n:Nat) (hn:n≤18446744073709551615):Calls Tryz.prog 119 #[v,.int .u64 (n:Nat)] w (WRet C v w0 (l++Co.wLong n)):=by
 obtain ⟨S,hat,hb,hS⟩:=h
 exact (C.long hat hl n hn).mono fun e w' h=>WAt.out hb hS h
theorem WAt.flag (h:WAt C v w0 l w) (hl:l.length≤1099511500000) (f:Bool):Calls Tryz.prog 120 #[v,.bool f] w (WRet C v w0 (l++Co.wFlag f)):=by
 obtain ⟨S,hat,hb,hS⟩:=h
 exact (C.flag hat hl f).mono fun e w' h=>WAt.out hb hS h
theorem WAt.bytes (h:WAt C v w0 l w) (hl:l.length≤1099511500000) (A:Option Addr) (x:List UInt8) (c:Nat) (hr:Rd w0 A x) (hc:x.length≤c) (hx:x.length≤1000000):Calls Tryz.prog 76 #[v,.slice A x.length c] w (WRet C v w0 (l++Co.wBytes x)):=by
 obtain ⟨S,hat,hb,hS⟩:=h
 refine (C.bytes hat hl A x c (hr.below hb) hc hx fun h0 b hA hB=>?_).mono fun e w' h=>WAt.out hb hS h
 obtain ⟨b',off,rfl,hlt,_⟩:=hr h0
 simp at hA
 have:=hS b hB
 omega
theorem WAt.low (h:WAt C v w0 l w):Below w0.heap.size w0 w:=by obtain ⟨_,_,h,_⟩:=h;exact h
theorem WAt.more {w':World} (h:WAt C v w0 l w) (hb:Below w.heap.size w w'):WAt C v w0 l w':=by
 obtain ⟨S,hat,hb0,hS⟩:=h
 exact ⟨S,C.keep hat hb.size (fun b hB=>hb.block b (C.lt hat b hB)),hb0.trans (hb.mono hb0.size),hS⟩
theorem WAt.bytes2 {w2:World} (h:WAt C v w0 l w) (hl:l.length≤1099511500000) (hb2:Below w.heap.size w w2) (A:Option Addr) (x:List UInt8) (c:Nat) (hr:Rd w2 A x) (hA:∀ b,A.map (·.block)=some b→w.heap.size≤b) (hc:x.length≤c) (hx:x.length≤1000000):Calls Tryz.prog 76 #[v,.slice A x.length c] w2 (WRet C v w0 (l++Co.wBytes x)):=by
 obtain ⟨S,hat,hb,hS⟩:=h
 refine (C.bytes (C.keep hat hb2.size (fun b hB=>hb2.block b (C.lt hat b hB))) hl A x c hr hc hx fun h0 b hA2 hB=>?_).mono fun e w' h=>WAt.out (hb.trans (hb2.mono hb.size)) hS h
 have:=hA b hA2
 have:=C.lt hat b hB
 omega
theorem WAt.done (h:WAt C v w0 l w):Calls Tryz.prog 77 #[v] w fun e w'=>∃ X c,e=.returned (.slice X l.length c)∧l.length≤c∧Hid (w'.ownsRow 0 5 1 (.slice X l.length c) l.length (Lib.byteCells l))∧Hid (∀ b,(Value.slice X l.length c).ownBlock=some b→w0.heap.size≤b)∧Hid (Below w.heap.size w w')∧Hid (WAt C v w0 l w'):=by
 have h':=h
 obtain ⟨S,hat,hb,hS⟩:=h
 refine (C.done hat).mono ?_
 rintro e w' ⟨x,rfl,hown,hb2,ho⟩
 obtain ⟨X,c,rfl,hc,hr⟩:=own_form hown
 exact ⟨X,c,rfl,hc,hown,fun b hb3=>(ho b hb3).elim (hS b) (fun h=>Nat.le_trans hb.size h),hb2,h'.more hb2⟩
theorem WAt.new (C:WSaid) (w:World):Calls Tryz.prog 73 #[] w fun e w'=>∃ a,e=.returned (.pointer (some a))∧Hid (WAt C (.pointer (some a)) w [] w'):=by
 refine (C.new w).mono ?_
 rintro e w' ⟨v,S,rfl,hat,hb,hS⟩
 obtain ⟨a,rfl⟩:=C.ptr hat
 exact ⟨a,rfl,S,hat,hb,hS⟩
end
end Go.Proofs.YtjoedamiilgajaaGreat
namespace Go.Proofs.YtjoedamiilgajaaGreat
open Go.RowKit Rc
theorem enc_no (n:Nd) (h:n.right=false) (w:World):Calls Tryz.prog 75 #[n.val] w fun e w'=>e=.returned (.tuple #[.slice none 0 0,.int .i64 12])∧Below w.heap.size w w':=by
 obtain ⟨id,kind,links,size,till,shut⟩:=n
 show Calls _ _ #[.agg #[.int .i64 id,.int .i64 kind,.int .i64 links,.int .i64 size,.int .u64 (till:Nat),.bool shut]] w _
 have HR:=Lib.hid h
 clear h
 go_enter Tryz.func75,Tryz.ntmps75
 go_wp2_with fail
 refine (right_any ⟨id,kind,links,size,till,shut⟩ _).mono ?_
 rintro e w1 ⟨rfl,hb⟩
 rw [HR.out]
 have HB:Hid (Below w.heap.size w w1):=(below_new w _).trans (hb.mono (by rw [World.size_alloc];omega))
 clear hb
 go_wp2_with fail
 go_ret2
 exact ⟨rfl,HB.out⟩
set_option maxHeartbeats 1000000 in
set_option maxRecDepth 100000 in
theorem enc_yes (C:WSaid) (n:Nd) (h:n.Right) (w:World):Calls Tryz.prog 75 #[n.val] w fun e w'=>∃ X c,e=.returned (.tuple #[.slice X 16 c,.int .i64 0])∧16≤c∧w'.ownsRow w.heap.size 5 1 (.slice X 16 c) 16 (Lib.byteCells n.bytes)∧Below w.heap.size w w':=by
 have HR:Hid (n.right=true):=by show _=_;simpa [Nd.right] using h
 obtain ⟨id,kind,links,size,till,shut⟩:=n
 obtain ⟨h1,h2,h3,h4,h5,h6,h7,h8⟩:=h
 simp only at h1 h2 h3 h4 h5 h6 h7 h8
 obtain ⟨i,rfl⟩:∃ i:Nat,id=i:=⟨id.toNat,by omega⟩
 obtain ⟨k,rfl⟩:∃ k:Nat,kind=k:=⟨kind.toNat,by omega⟩
 obtain ⟨l,rfl⟩:∃ l:Nat,links=l:=⟨links.toNat,by omega⟩
 obtain ⟨z,rfl⟩:∃ z:Nat,size=z:=⟨size.toNat,by omega⟩
 have hi:i≤9223372036854775807:=by omega
 have hk:k≤9223372036854775807:=by omega
 have hl:l≤9223372036854775807:=by omega
 have hz:z≤9223372036854775807:=by omega
 have ht:till≤18446744073709551615:=by omega
 have HE:Hid (Co.wShort i++Co.wByte k++Co.wShort l++Co.wShort z++Co.wLong till++Co.wFlag shut=Nd.bytes ⟨(i:Nat),(k:Nat),(l:Nat),(z:Nat),till,shut⟩):=by
  show _=_
  have e1:Nd.lo16 ((i:Nat):Int)=i:=by unfold Nd.lo16;omega
  have e2:Nd.lo8 ((k:Nat):Int)=k:=by unfold Nd.lo8;omega
  have e3:Nd.lo16 ((l:Nat):Int)=l:=by unfold Nd.lo16;omega
  have e4:Nd.lo16 ((z:Nat):Int)=z:=by unfold Nd.lo16;omega
  unfold Nd.bytes
  simp only [e1,e2,e3,e4,List.append_assoc]
 have HI:=Lib.hid hi
 have HK:=Lib.hid hk
 have HL:=Lib.hid hl
 have HZ:=Lib.hid hz
 have HT:=Lib.hid ht
 clear h1 h2 h3 h4 h5 h6 h7 h8 hi hk hl hz ht
 show Calls _ _ #[.agg #[.int .i64 (i:Nat),.int .i64 (k:Nat),.int .i64 (l:Nat),.int .i64 (z:Nat),.int .u64 (till:Nat),.bool shut]] w _
 have HBX:Hid (Blk (w.alloc (.cells #[.int .i64 (i:Nat),.int .i64 (k:Nat),.int .i64 (l:Nat),.int .i64 (z:Nat),.int .u64 (till:Nat),.bool shut] 59)) w.heap.size 59 [.int .i64 (i:Nat),.int .i64 (k:Nat),.int .i64 (l:Nat),.int .i64 (z:Nat),.int .u64 (till:Nat),.bool shut]):=Blk.new w _ _
 go_enter Tryz.func75,Tryz.ntmps75
 go_wp2_with fail
 refine (right_any ⟨(i:Nat),(k:Nat),(l:Nat),(z:Nat),till,shut⟩ _).mono ?_
 rintro e w1 ⟨rfl,hb⟩
 rw [HR.out]
 have HB:Hid (Below w.heap.size w w1):=(below_new w _).trans (hb.mono (by rw [World.size_alloc];omega))
 have HX:Hid (Blk w1 w.heap.size 59 [.int .i64 (i:Nat),.int .i64 (k:Nat),.int .i64 (l:Nat),.int .i64 (z:Nat),.int .u64 (till:Nat),.bool shut]):=HBX.out.below hb HBX.out.lt
 clear hb HBX
 go_wp2_with fail
 refine (WAt.new C w1).mono ?_
 rintro e w2 ⟨a,rfl,HW2⟩
 have c:=(HX.out.below (WAt.low HW2.out) HX.out.lt).cell 0
 go_wp2_with fail
 refine (WAt.short HW2.out (by simp []) i HI.out).mono ?_
 rintro e w3 ⟨⟨x3,rfl⟩,HW3⟩
 clear HW2 c
 have c:=(HX.out.below (WAt.low HW3.out) HX.out.lt).cell 1
 go_wp2_with fail
 refine (WAt.byte HW3.out (by simp [Co.wShort]) k HK.out).mono ?_
 rintro e w4 ⟨⟨x4,rfl⟩,HW4⟩
 clear HW3 c
 have c:=(HX.out.below (WAt.low HW4.out) HX.out.lt).cell 2
 go_wp2_with fail
 refine (WAt.short HW4.out (by simp [Co.wShort,Co.wByte]) l HL.out).mono ?_
 rintro e w5 ⟨⟨x5,rfl⟩,HW5⟩
 clear HW4 c
 have c:=(HX.out.below (WAt.low HW5.out) HX.out.lt).cell 3
 go_wp2_with fail
 refine (WAt.short HW5.out (by simp [Co.wShort,Co.wByte]) z HZ.out).mono ?_
 rintro e w6 ⟨⟨x6,rfl⟩,HW6⟩
 clear HW5 c
 have c:=(HX.out.below (WAt.low HW6.out) HX.out.lt).cell 4
 go_wp2_with fail
 refine (WAt.long HW6.out (by simp [Co.wShort,Co.wByte]) till HT.out).mono ?_
 rintro e w7 ⟨⟨x7,rfl⟩,HW7⟩
 clear HW6 c
 have c:=(HX.out.below (WAt.low HW7.out) HX.out.lt).cell 5
 go_wp2_with fail
 refine (WAt.flag HW7.out (by simp [Co.wShort,Co.wByte,Co.wLong_length]) shut).mono ?_
 rintro e w8 ⟨⟨x8,rfl⟩,HW8⟩
 clear HW7 c
 go_wp2_with fail
 refine (WAt.done HW8.out).mono ?_
 rintro e w9 ⟨X,c,rfl,hc,HO,HX2,HD,_⟩
 have hlen:([]++Co.wShort i++Co.wByte k++Co.wShort l++Co.wShort z++Co.wLong till++Co.wFlag shut:List UInt8).length=16:=by
  rw [List.nil_append,HE.out,Nd.bytes_length]
 have HC:Hid (16≤c):=by show 16≤c;rw [← hlen];exact hc
 have HOW:Hid (w9.ownsRow w.heap.size 5 1 (.slice X 16 c) 16 (Lib.byteCells (Nd.bytes ⟨(i:Nat),(k:Nat),(l:Nat),(z:Nat),till,shut⟩))):=by
  have h1:=HO.out
  rw [hlen,List.nil_append,HE.out] at h1
  have h2:=HX2.out
  rw [hlen] at h2
  exact own_up h1 fun b hb=>Nat.le_trans HB.out.size (h2 b hb)
 have HF:Hid (Below w.heap.size w w9):=HB.out.trans ((WAt.low HW8.out).trans (HD.out.mono (WAt.low HW8.out).size) |>.mono HB.out.size)
 rw [hlen]
 clear hlen hc HO HX2 HD HW8 HX HE
 go_wp2_with fail
 go_ret2
 exact ⟨X,c,rfl,HC.out,HOW.out,HF.out⟩
end Go.Proofs.YtjoedamiilgajaaGreat
namespace Go.Proofs.YtjoedamiilgajaaGreat
open Go.RowKit
end Go.Proofs.YtjoedamiilgajaaGreat
namespace Go.Proofs.YtjoedamiilgajaaGreat
open Go.RowKit
end Go.Proofs.YtjoedamiilgajaaGreat
namespace Go.Proofs.YtjoedamiilgajaaGreat
open Go.RowKit Rc
section
variable {id kind links size:Int} {till:Nat} {shut:Bool}
theorem enc_yes_as (C:WSaid) (w:World) (h:Nd.Right ⟨id,kind,links,size,till,shut⟩):Calls Tryz.prog 75 #[.agg #[.int .i64 id,.int .i64 kind,.int .i64 links,.int .i64 size,.int .u64 (till:Nat),.bool shut]] w fun e w'=>∃ X c,e=.returned (.tuple #[.slice X 16 c,.int .i64 0])∧16≤c∧Hid (w'.ownsRow w.heap.size 5 1 (.slice X 16 c) 16 (Lib.byteCells (Nd.bytes ⟨id,kind,links,size,till,shut⟩)))∧Hid (Rd w' X (Nd.bytes ⟨id,kind,links,size,till,shut⟩))∧Hid (Below w.heap.size w w'):=by
 refine (enc_yes C ⟨id,kind,links,size,till,shut⟩ h w).mono ?_
 rintro e w' ⟨X,c,rfl,hc,ho,hb⟩
 refine ⟨X,c,rfl,hc,ho,?_,hb⟩
 have hl:=Nd.bytes_length ⟨id,kind,links,size,till,shut⟩
 obtain ⟨X',c',e,_,hr⟩:=own_form (show w'.ownsRow w.heap.size 5 1 (.slice X 16 c) (Nd.bytes ⟨id,kind,links,size,till,shut⟩).length (Lib.byteCells (Nd.bytes ⟨id,kind,links,size,till,shut⟩)) from by rw [hl];exact ho)
 injection e with e1 e2 e3
 subst e1
 exact hr
end
end Go.Proofs.YtjoedamiilgajaaGreat
namespace Go.Proofs.YtjoedamiilgajaaGreat
open Go.RowKit Rc
def WrAt (v:Value) (l:List UInt8) (S:Nat→Prop) (w:World):Prop :=
 ∃ g x,v=.pointer (some ⟨g,0,none⟩)∧Blk w g 152 [x]∧w.ownsRow 0 5 1 x l.length (Lib.byteCells l)∧x.ownBlock≠some g∧l.length≤1099511627776∧S=fun b=>b=g∨x.ownBlock=some b
theorem own_keep {w w':World} {base n:Nat} {v:Value} {xs:List Value} (h:w.ownsRow base 5 1 v n xs) (hb:∀ b,v.ownBlock=some b→w'.heap[b]?=w.heap[b]?):w'.ownsRow base 5 1 v n xs:=by
 refine ⟨h.1,?_⟩
 rcases h.2 with h2|⟨g,cap,cur,rfl,h4,h5,h6⟩
 ·exact .inl h2
 ·exact .inr ⟨g,cap,cur,rfl,h4,(hb g rfl).trans h5,h6⟩
theorem WrAt.keep {v:Value} {l:List UInt8} {S:Nat→Prop} {w w':World} (h:WrAt v l S w) (hb:∀ b,S b→w'.heap[b]?=w.heap[b]?):WrAt v l S w':=by
 obtain ⟨g,x,rfl,h1,h2,h3,h4,rfl⟩:=h
 exact ⟨g,x,rfl,(hb g (.inl rfl)).trans h1,own_keep h2 fun b h=>hb b (.inr h),h3,h4,rfl⟩
theorem WrAt.lt {v:Value} {l:List UInt8} {S:Nat→Prop} {w:World} (h:WrAt v l S w):∀ b,S b→b<w.heap.size:=by
 obtain ⟨g,x,rfl,h1,h2,h3,h4,rfl⟩:=h
 rintro b (rfl|hb)
 ·exact h1.lt
 ·exact (own_lt h2 hb).2
set_option maxHeartbeats 1000000 in
theorem done_any {v:Value} {l:List UInt8} {S:Nat→Prop} {w:World} (h:WrAt v l S w) :
    Calls Tryz.prog 77 #[v] w fun e w'=>∃ x,e=.returned x∧w'.ownsRow 0 5 1 x l.length (Lib.byteCells l)∧Below w.heap.size w w'∧∀ b,x.ownBlock=some b→S b∨w.heap.size≤b:=by
 obtain ⟨g,x,rfl,hb,hown,hne,hl,rfl⟩:=h
 have c0:w.cell? ⟨g,0,none⟩=some x:=hb.cell 0
 obtain ⟨X,c,rfl,hc,hr⟩:=own_form hown
 have HR:=Lib.hid hr
 clear hb hown hne hr
 go_enter Tryz.func77,Tryz.ntmps77
 go_wp2_with fail
 refine (clone_any w X l c HR.out (by omega)).mono ?_
 rintro e w1 ⟨v,rfl,hown,hb⟩
 have HO:=Lib.hid hown
 have HB:=Lib.hid hb
 clear hown hb
 go_wp2_with fail
 go_ret
 exact ⟨_,rfl,own_base HO.out,HB.out,fun b hb=>.inr (HO.out.ownBlock_ge b hb)⟩
set_option maxHeartbeats 1000000 in
theorem neww_any (w:World):Calls Tryz.prog 73 #[] w fun e w'=>∃ v S,e=.returned v∧WrAt v [] S w'∧Below w.heap.size w w'∧∀ b,S b→w.heap.size≤b:=by
 have HB:Hid (Blk (w.alloc (.cells #[.slice none 0 0] 152)) w.heap.size 152 [.slice none 0 0]):=Blk.new w _ _
 have HL:Hid (Below w.heap.size w (w.alloc (.cells #[.slice none 0 0] 152))):=below_new w _
 go_enter Tryz.func73,Tryz.ntmps73
 go_wp2_with fail
 go_ret
 refine ⟨_,_,rfl,⟨_,_,rfl,HB.out,own_base (own_nil _ 0),by simp [Value.ownBlock],by simp,rfl⟩,HL.out,?_⟩
 rintro b (rfl|hb)
 ·exact Nat.le_refl _
 ·cases hb
theorem own_slice {w:World} {B n:Nat} {v:Value} {xs:List Value} (h:w.ownsRow B 5 1 v n xs):∃ X c,v=.slice X n c:=by
 rcases h.2 with ⟨rfl,rfl⟩|⟨g,cap,cur,rfl,_⟩
 ·exact ⟨_,_,rfl⟩
 ·exact ⟨_,_,rfl⟩
theorem WrAt.pushed {g:Nat} {l y:List UInt8} {u x:Value} {w wa w1:World} (hb:Blk w g 152 [u]) (_ho:w.ownsRow 0 5 1 u l.length (Lib.byteCells l)) (hne:u.ownBlock≠some g) (ha:Below w.heap.size w wa)
    (hsm:l.length+y.length≤1099511627776) (ho1:w1.ownsRow 0 5 1 x (l.length+y.length) (Lib.byteCells l++Lib.byteCells y)) (hg:wa.grownBy w1 u.ownBlock) (hp:x.ownBlock=u.ownBlock∨x.ownBlock=some wa.heap.size) :
    ∃ S',WrAt (.pointer (some ⟨g,0,none⟩)) (l++y) S' (w1.setCell ⟨g,0,none⟩ x)∧Mod w (w1.setCell ⟨g,0,none⟩ x) (fun b=>b=g∨u.ownBlock=some b)∧∀ b,S' b→(b=g∨u.ownBlock=some b)∨w.heap.size≤b:=by
 have hne1:x.ownBlock≠some g:=by
  rcases hp with h|h
  ·rw [h];exact hne
  ·rw [h];intro e;injection e with e;have:=ha.size;have:=hb.lt;omega
 have hb1:Blk w1 g 152 [u]:=(hb.below ha hb.lt).grown hg (fun e=>hne e.symm)
 refine ⟨fun b=>b=g∨x.ownBlock=some b,⟨g,x,rfl,hb1.set_ 0 x,?_,hne1,by rw [List.length_append];exact hsm,rfl⟩,?_,?_⟩
 ·rw [List.length_append,Lib.byteCells_append]
  exact own_far ho1 _ hne1 _
 ·refine ⟨hg.os.trans ha.os,hg.tape.trans ha.tape,hg.output.trans ha.output,?_,?_⟩
  ·have:=ha.size;have:=hg.size;simp [World.setCell];omega
  ·intro k hk hn
   have hkg:k≠g:=fun e=>hn (.inl e)
   refine (Below.heap_setCell _ _ _ _ hkg).trans ((hg.block k (by have:=ha.size;omega) (fun e=>hn (.inr e.symm))).trans (ha.block k hk))
 ·rintro b (h|h)
  ·exact .inl (.inl h)
  ·rcases hp with h2|h2
   ·exact .inl (.inr (h2 ▸ h))
   ·rw [h2] at h;injection h with h;have:=ha.size;exact .inr (by omega)
set_option maxHeartbeats 1000000 in
set_option maxRecDepth 100000 in
theorem raw_any {v:Value} {l:List UInt8} {S:Nat→Prop} {w:World} (h:WrAt v l S w) (A:Option Addr) (x:List UInt8) (c:Nat) (hr:Rd w A x) (hS:0<x.length→∀ b,A.map (·.block)=some b→¬ S b) (hl:l.length+x.length≤1099511627776) :
    Calls Tryz.prog 121 #[v,.slice A x.length c] w (WOut WrAt v (l++x) S w):=by
 obtain ⟨g,u,rfl,hb,hown,hne,_,rfl⟩:=h
 have c0:w.cell? ⟨g,0,none⟩=some u:=hb.cell 0
 have f0:=hb.frozen 0
 obtain ⟨i0,hi,hz0,hz1,hz2⟩:=info_parts Tryz.infoU8
 have HI0:=Lib.hid hi
 have HZ0:=Lib.hid hz0
 have HZ1:=Lib.hid hz1
 have HZ2:=Lib.hid hz2
 have HR:=Lib.hid hr
 have HB:=Lib.hid hb
 have HO:=Lib.hid hown
 have HNE:=Lib.hid hne
 have HS:=Lib.hid hS
 clear hi hz0 hz1 hz2 hr hb hown hne hS
 go_enter Tryz.func121,Tryz.ntmps121
 go_wp2_with (at_builtin;refine wpList_append_at_rd rfl (.tmp 8) (.tmp 9) 39 rfl 0 5 i0 Tryz.underlying39 HI0.out HZ0.out HZ1.out HZ2.out u l.length (Lib.byteCells l) rfl HO.out A x x.length c rfl rfl HR.out hl (Nat.zero_le _) ?_;intro v1 w1 HO1 HG1 HP1;obtain ⟨X1,k1,rfl⟩:=own_slice HO1.out;have HB1:Hid (Blk w1 g 152 [u]):=HB.out.grown HG1.out (fun e=>HNE.out e.symm);have c1:=HB1.out.cell 0;have f1:=HB1.out.frozen 0)
 go_end0
 obtain ⟨S',h1,h2,h3⟩:=WrAt.pushed HB.out HO.out HNE.out (Below.refl _ _) hl HO1.out HG1.out HP1.out
 exact ⟨⟨_,rfl⟩,S',h1,h2,h3⟩
def wNum (n size:Nat):List UInt8:=(List.range size).map fun j=>UInt8.ofNat (n / 2 ^ (8*(size-1-j)))
theorem wNum_length (n size:Nat):(wNum n size).length=size:=by simp [wNum]
theorem wNum_take (n size m:Nat) (h:m+1≤size):(wNum n size).take (size-m)=(wNum n size).take (size-(m+1))++[UInt8.ofNat (n / 2 ^ (8*m))]:=by
 have e:size-m=(size-(m+1))+1:=by omega
 rw [e,List.take_succ_eq_append_getElem (by rw [wNum_length];omega)]
 congr 1
 simp only [wNum,List.getElem_map,List.getElem_range]
 rw [show size-1-(size-(m+1))=m by omega]
theorem wNum1 (n:Nat):wNum n 1=Co.wByte n:=by simp [wNum,Co.wByte]
theorem wNum2 (n:Nat):wNum n 2=Co.wShort n:=by simp [wNum,Co.wShort,List.range_succ]
theorem wNum8 (n:Nat):wNum n 8=Co.wLong n:=by simp [wNum,Co.wLong,List.range_succ]
def NumAt (v:Value) (S:Nat→Prop) (l:List UInt8) (w wr:World):Prop:=∃ S',WrAt v l S' wr∧Mod w wr S∧∀ b,S' b→S b∨w.heap.size≤b
theorem NumAt.push {g:Nat} {S:Nat→Prop} {l y:List UInt8} {u x:Value} {w wr wa w1:World} (hM:Mod w wr S) (hS:∀ b,(b=g∨u.ownBlock=some b)→S b∨w.heap.size≤b) (hb:Blk wr g 152 [u]) (ho:wr.ownsRow 0 5 1 u l.length (Lib.byteCells l)) (hne:u.ownBlock≠some g) (ha:Below wr.heap.size wr wa)
    (hsm:l.length+y.length≤1099511627776) (ho1:w1.ownsRow 0 5 1 x (l.length+y.length) (Lib.byteCells l++Lib.byteCells y)) (hg:wa.grownBy w1 u.ownBlock) (hp:x.ownBlock=u.ownBlock∨x.ownBlock=some wa.heap.size) :
    NumAt (.pointer (some ⟨g,0,none⟩)) S (l++y) w (w1.setCell ⟨g,0,none⟩ x):=by
 obtain ⟨S',h1,h2,h3⟩:=WrAt.pushed hb ho hne ha hsm ho1 hg hp
 refine ⟨S',h1,⟨h2.os.trans hM.os,h2.tape.trans hM.tape,h2.output.trans hM.output,Nat.le_trans hM.size h2.size,fun k hk hn=>(h2.block k (Nat.lt_of_lt_of_le hk hM.size) fun hX=>?_).trans (hM.block k hk hn)⟩,fun b hb=>?_⟩
 ·rcases hS k hX with h|h
  ·exact hn h
  ·omega
 ·rcases h3 b hb with h|h
  ·exact hS b h
  ·exact .inr (Nat.le_trans hM.size h)
set_option maxHeartbeats 1000000 in
set_option maxRecDepth 100000 in
theorem number_any {v:Value} {l:List UInt8} {S:Nat→Prop} {w:World} (h:WrAt v l S w) (n size:Nat) (_hn:n≤18446744073709551615) (hs:size≤8) (hl:l.length≤1099511620000) :
    Calls Tryz.prog 116 #[v,.int .u64 (n:Nat),.int .i64 (size:Nat)] w (WOut WrAt v (l++wNum n size) S w):=by
 obtain ⟨i0,hi,hz0,hz1,hz2⟩:=info_parts Tryz.infoU8
 have HI0:=Lib.hid hi
 have HZ0:=Lib.hid hz0
 have HZ1:=Lib.hid hz1
 have HZ2:=Lib.hid hz2
 obtain ⟨g,hv⟩:∃ g,v=.pointer (some ⟨g,0,none⟩):=by obtain ⟨g,x,rfl,_⟩:=h;exact ⟨g,rfl⟩
 have H0:Hid (NumAt v S (l++(wNum n size).take (size-size)) w w):=by
  show NumAt _ _ _ _ _
  rw [Nat.sub_self,List.take_zero,List.append_nil]
  exact ⟨S,h,Mod.refl _ _,fun b hb=>.inl hb⟩
 subst hv
 clear hi hz0 hz1 hz2 h
 have hw1:IntKind.i64.wrap ((size:Int)-1)=(size:Int)-1:=IntWalk.i64_in _ (by omega)
 go_enter Tryz.func116,Tryz.ntmps116
 go_wp2_with fail
 clear hw1
 go_loopw [6] (fun t6 wr=>∃ i:Nat,i≤size∧t6=.int .i64 (((i:Nat):Int)-1)∧Hid (NumAt (.pointer (some ⟨g,0,none⟩)) S (l++(wNum n size).take (size-i)) w wr)) (fun t6 _=>(intOf t6+1).toNat)
 case atStart=>exact ⟨size,by omega,rfl,H0⟩
 case round =>
  obtain ⟨i,hi,rfl,HM⟩:=hrel
  rcases Nat.eq_zero_or_pos i with h0|h0
  ·subst h0
   have HF:Hid (NumAt (.pointer (some ⟨g,0,none⟩)) S (l++wNum n size) w wr):=by
    have:=HM.out
    rw [List.take_of_length_le (by rw [wNum_length];omega)] at this
    exact this
   clear HM
   go_wp2_with fail
   go_end0
   obtain ⟨S',h1,h2,h3⟩:=HF.out
   exact ⟨⟨_,rfl⟩,S',h1,h2,h3⟩
  ·obtain ⟨m,rfl⟩:∃ m,i=m+1:=⟨i-1,by omega⟩
   have e1:(((m+1:Nat):Int)-1)=(m:Int):=by omega
   rw [e1]
   clear e1
   obtain ⟨S',⟨g',u,hgg,hb,hown,hne,_,rfl⟩,hM,hSS⟩:=HM.out
   injection hgg with hgg;injection hgg with hgg;injection hgg with hgg;subst hgg
   obtain ⟨L,hL⟩:∃ L,L=l++(wNum n size).take (size-(m+1)):=⟨_,rfl⟩
   rw [← hL] at hown
   have hLl:L.length≤l.length+8:=by rw [hL,List.length_append,List.length_take,wNum_length];omega
   have HL:=Lib.hid hL
   have c0:wr.cell? ⟨g,0,none⟩=some u:=hb.cell 0
   have HB:=Lib.hid hb
   have HO:=Lib.hid hown
   have HNE:=Lib.hid hne
   have HMM:=Lib.hid hM
   have HSS:=Lib.hid hSS
   have hw8:IntKind.i64.wrap ((8:Int)*(m:Int))=((8*m:Nat):Int):=(IntWalk.i64_in _ (by omega)).trans (by omega)
   clear HM hb hown hne hM hSS hL H0
   go_wp2_with fail
   obtain ⟨X,hX⟩:∃ X:Int,X=IntKind.u8.wrap ((n:Int) / 2 ^ ((8:Int)*(m:Int)).toNat):=⟨_,rfl⟩
   have HXE:=Lib.hid hX
   have HXX:Hid (((UInt8.ofNat (n / 2 ^ (8*m))).toNat:Int)=X):=by
    show _=_
    rw [hX,u8_cast,show ((8:Int)*(m:Int)).toNat=8*m by omega,IntKind.wrap_u8]
    norm_cast
   have HBW:Hid (Below wr.heap.size wr (wr.drew.alloc (.cells #[Value.int .u8 (IntKind.u8.wrap ((n:Int) / 2 ^ ((8:Int)*(m:Int)).toNat))] 5))):=undrew (below_new wr.drew _)
   have HOW:Hid ((wr.drew.alloc (.cells #[Value.int .u8 (IntKind.u8.wrap ((n:Int) / 2 ^ ((8:Int)*(m:Int)).toNat))] 5)).ownsRow 0 5 1 u L.length (Lib.byteCells L)):=own_later HO.out HBW.out
   have HRW:Hid (Rd (wr.drew.alloc (.cells #[Value.int .u8 (IntKind.u8.wrap ((n:Int) / 2 ^ ((8:Int)*(m:Int)).toNat))] 5)) (some ⟨wr.heap.size,0,none⟩) [UInt8.ofNat (n / 2 ^ (8*m))]):=rd_new wr.drew _ _ _ (HXX.out.trans HXE.out)
   have HNN:Hid (L.length+[UInt8.ofNat (n / 2 ^ (8*m))].length≤1099511627776):=by show _≤_;simp;omega
   have c0a:(wr.alloc (.cells #[Value.int .u8 (IntKind.u8.wrap ((n:Int) / 2 ^ ((8:Int)*(m:Int)).toNat))] 5)).cell? ⟨g,0,none⟩=some u:=(HB.out.alloc _).cell 0
   clear hX HXX HXE
   go_region_law (refine step_append_rd rfl (.tmp 17) (.tmp 23) 39 rfl 0 5 i0 Tryz.underlying39 HI0.out HZ0.out HZ1.out HZ2.out u L.length (Lib.byteCells L) rfl HOW.out (some ⟨wr.heap.size,0,none⟩) [UInt8.ofNat (n / 2 ^ (8*m))] 1 1 rfl rfl HRW.out HNN.out (Nat.zero_le _) ?_;intro v1 w1 HO1 HG1 HP1;obtain ⟨X1,k1,rfl⟩:=own_slice HO1.out;have HB1:Hid (Blk w1 g 152 [u]):=(HB.out.below HBW.out HB.out.lt).grown HG1.out (fun e=>HNE.out e.symm);have c1:=HB1.out.cell 0;have f1:=HB1.out.frozen 0)
   all_goals
    have HM4:Hid (NumAt (.pointer (some ⟨g,0,none⟩)) S (l++(wNum n size).take (size-m)) w (w1.setCell ⟨g,0,none⟩ (.slice X1 (L.length+1) k1))):=by
     show NumAt _ _ _ _ _
     rw [wNum_take n size m (by omega),← List.append_assoc,← HL.out]
     exact NumAt.push HMM.out HSS.out HB.out HO.out HNE.out HBW.out HNN.out HO1.out HG1.out HP1.out
    clear HO1 HG1 HP1 HB1 c1 f1 HBW HOW HRW HNN c0 c0a HB HO HNE HMM HSS HL hw8
    have hw9:IntKind.i64.wrap ((m:Int)-1)=(m:Int)-1:=IntWalk.i64_in _ (by omega)
    go_wp2_with fail
    go_roundw
    case rel=>exact ⟨m,by omega,by go_num,HM4⟩
    case measure=>simp [intOf]
def WNum (f:FuncId) (k:IntKind) (most:Nat) (b:Nat→List UInt8):Prop:=∀ {v:Value} {l:List UInt8} {S:Nat→Prop} {w:World},WrAt v l S w→l.length≤1099511500000→∀ n:Nat,n≤most→Calls Tryz.prog f #[v,.int k (n:Nat)] w (WOut WrAt v (l++b n) S w)
set_option maxHeartbeats 1000000 in
theorem byte_any:WNum 118 .i64 9223372036854775807 Co.wByte:=by
 intro v l S w h hl n hn
 have H:=Lib.hid h
 obtain ⟨g,hv⟩:∃ g,v=.pointer (some ⟨g,0,none⟩):=by obtain ⟨g,x,rfl,_⟩:=h;exact ⟨g,rfl⟩
 subst hv
 clear h
 have hw:IntKind.u64.wrap (n:Int)=(n:Int):=by rw [IntKind.wrap_u64];omega
 go_enter Tryz.func118,Tryz.ntmps118
 go_wp2_with fail
 refine (number_any H.out n 1 (by omega) (by omega) (by omega)).mono ?_
 rintro e w1 ⟨⟨x,rfl⟩,h⟩
 have HF:=Lib.hid h
 clear h
 go_wp2_with fail
 go_end0
 refine ⟨⟨_,rfl⟩,?_⟩
 have:=HF.out
 rw [wNum1] at this
 exact this
set_option maxHeartbeats 1000000 in
theorem short_any:WNum 74 .i64 9223372036854775807 Co.wShort:=by
 intro v l S w h hl n hn
 have H:=Lib.hid h
 obtain ⟨g,hv⟩:∃ g,v=.pointer (some ⟨g,0,none⟩):=by obtain ⟨g,x,rfl,_⟩:=h;exact ⟨g,rfl⟩
 subst hv
 clear h
 have hw:IntKind.u64.wrap (n:Int)=(n:Int):=by rw [IntKind.wrap_u64];omega
 go_enter Tryz.func74,Tryz.ntmps74
 go_wp2_with fail
 refine (number_any H.out n 2 (by omega) (by omega) (by omega)).mono ?_
 rintro e w1 ⟨⟨x,rfl⟩,h⟩
 have HF:=Lib.hid h
 clear h
 go_wp2_with fail
 go_end0
 refine ⟨⟨_,rfl⟩,?_⟩
 have:=HF.out
 rw [wNum2] at this
 exact this
set_option maxHeartbeats 1000000 in
theorem long_any:WNum 119 .u64 18446744073709551615 Co.wLong:=by
 intro v l S w h hl n hn
 have H:=Lib.hid h
 obtain ⟨g,hv⟩:∃ g,v=.pointer (some ⟨g,0,none⟩):=by obtain ⟨g,x,rfl,_⟩:=h;exact ⟨g,rfl⟩
 subst hv
 clear h
 go_enter Tryz.func119,Tryz.ntmps119
 go_wp2_with fail
 refine (number_any H.out n 8 (by omega) (by omega) (by omega)).mono ?_
 rintro e w1 ⟨⟨x,rfl⟩,h⟩
 have HF:=Lib.hid h
 clear h
 go_wp2_with fail
 go_end0
 refine ⟨⟨_,rfl⟩,?_⟩
 have:=HF.out
 rw [wNum8] at this
 exact this
set_option maxHeartbeats 1000000 in
theorem flag_any {v:Value} {l:List UInt8} {S:Nat→Prop} {w:World} (h:WrAt v l S w) (hl:l.length≤1099511500000) (f:Bool):Calls Tryz.prog 120 #[v,.bool f] w (WOut WrAt v (l++Co.wFlag f) S w):=by
 have H:=Lib.hid h
 obtain ⟨g,hv⟩:∃ g,v=.pointer (some ⟨g,0,none⟩):=by obtain ⟨g,x,rfl,_⟩:=h;exact ⟨g,rfl⟩
 subst hv
 clear h
 cases f with
 | true =>
   go_enter Tryz.func120,Tryz.ntmps120
   go_wp2_with fail
   refine (byte_any H.out hl 1 (by omega)).mono ?_
   rintro e w1 ⟨⟨x,rfl⟩,h⟩
   have HF:=Lib.hid h
   clear h
   go_wp2_with fail
   go_end0
   exact ⟨⟨_,rfl⟩,HF.out⟩
 | false =>
   go_enter Tryz.func120,Tryz.ntmps120
   go_wp2_with fail
   refine (byte_any H.out hl 0 (by omega)).mono ?_
   rintro e w1 ⟨⟨x,rfl⟩,h⟩
   have HF:=Lib.hid h
   clear h
   go_wp2_with fail
   go_end0
   exact ⟨⟨_,rfl⟩,HF.out⟩
set_option maxHeartbeats 1000000 in
theorem bytes_any {v:Value} {l:List UInt8} {S:Nat→Prop} {w:World} (h:WrAt v l S w) (hl:l.length≤1099511500000) (A:Option Addr) (x:List UInt8) (c:Nat) (hr:Rd w A x) (hc:x.length≤c) (hx:x.length≤1000000) (hS:0<x.length→∀ b,A.map (·.block)=some b→¬ S b) :
    Calls Tryz.prog 76 #[v,.slice A x.length c] w (WOut WrAt v (l++Co.wBytes x) S w):=by
 have H:=Lib.hid h
 obtain ⟨g,hv⟩:∃ g,v=.pointer (some ⟨g,0,none⟩):=by obtain ⟨g,x,rfl,_⟩:=h;exact ⟨g,rfl⟩
 subst hv
 obtain ⟨k,hk⟩:∃ k:Nat,k=min x.length 65535:=⟨_,rfl⟩
 have hk1:k≤x.length:=by omega
 have hmin:(if (65535:Int)<((x.length:Nat):Int) then (65535:Int) else ((x.length:Nat):Int))=(k:Int):=by split <;> omega
 obtain ⟨r,hsl,hrc,HRD,HEQ,HLR,hrl⟩:=part_h A x c k hk1 hc
 obtain rfl:k=r.length:=HLR.out.symm
 have HR:=Lib.hid hr
 have HS:=Lib.hid hS
 have hr5:r.length≤65535:=by have:=HLR.out;omega
 have HX:Hid (Co.wBytes x=Co.wShort r.length++r):=by
  show _=_
  unfold Co.wBytes
  have e:x.take 65535=r:=by
   refine Eq.trans ?_ HEQ.out.symm
   by_cases h6:x.length≤65535
   ·rw [List.take_of_length_le h6,List.take_of_length_le (by omega)]
   ·rw [show r.length=65535 by omega]
  rw [e]
 clear h hr hS hk
 go_enter Tryz.func76,Tryz.ntmps76
 go_wp2_with fail
 refine (short_any H.out hl r.length (by omega)).mono ?_
 rintro e w1 ⟨⟨y,rfl⟩,S',hat,hm,hs⟩
 have HAT:=Lib.hid hat
 have HM:=Lib.hid hm
 have HS':=Lib.hid hs
 clear hat hm hs
 go_wp2_with fail
 refine (raw_any HAT.out A r c ((HRD.out _ HR.out).mod HM.out (fun h0 b hb=>HS.out (by omega) b hb)) (fun h0 b hb hS'=>?_) (by rw [List.length_append];simp [Co.wShort];omega)).mono ?_
 ·rcases HS'.out b hS' with h|h
  ·exact HS.out (by omega) b hb h
  ·obtain ⟨b',off,rfl,hlt,_⟩:=HR.out (by omega)
   simp at hb
   omega
 rintro e w2 ⟨⟨z,rfl⟩,S2,hat,hm,hs⟩
 have HF:Hid (WOut WrAt (.pointer (some ⟨g,0,none⟩)) (l++Co.wBytes x) S w (.returned (.tuple #[])) w2):=by
  refine ⟨⟨_,rfl⟩,S2,?_,⟨hm.os.trans HM.out.os,hm.tape.trans HM.out.tape,hm.output.trans HM.out.output,Nat.le_trans HM.out.size hm.size,fun k hk hn=>(hm.block k (Nat.lt_of_lt_of_le hk HM.out.size) fun hX=>?_).trans (HM.out.block k hk hn)⟩,fun b hb=>?_⟩
  ·rw [HX.out,← List.append_assoc];exact hat
  ·rcases HS'.out k hX with h|h
   ·exact hn h
   ·omega
  ·rcases hs b hb with h|h
   ·exact HS'.out b h
   ·exact .inr (Nat.le_trans HM.out.size h)
 clear hat hm hs
 go_wp2_with fail
 go_end0
 exact HF.out
def wsaid:WSaid where
 At:=WrAt
 keep:=fun h _ hb=>h.keep hb
 lt:=fun h=>h.lt
 ptr:=fun h=>by obtain ⟨g,x,rfl,_⟩:=h;exact ⟨_,rfl⟩
 new:=neww_any
 byte:=fun h hl n hn=>byte_any h hl n hn
 short:=fun h hl n hn=>short_any h hl n hn
 long:=fun h hl n hn=>long_any h hl n hn
 flag:=fun h hl f=>flag_any h hl f
 bytes:=fun h hl A x c hr hc hx hS=>bytes_any h hl A x c hr hc hx hS
 raw:=fun h A x c hr hc hx hS=>raw_any h A x c hr hS (by omega)
 done:=fun h=>done_any h
end Go.Proofs.YtjoedamiilgajaaGreat
namespace Go.Proofs.YtjoedamiilgajaaGreat
open Go.RowKit Rc
open Tr (Nm En T)
namespace Tr
theorem wBytes_length (x:Bs):(Co.wBytes x).length≤65537:=by
 unfold Co.wBytes Co.wShort
 simp only [List.length_append,List.length_cons,List.length_nil,List.length_take]
 omega
theorem nameBytes_length (n:Nm):(nameBytes n).length≤65539:=by
 have:=wBytes_length n.1
 unfold nameBytes
 rw [List.length_append]
 unfold Co.wShort
 simp only [List.length_cons,List.length_nil]
 omega
theorem names_bytes:∀ l:List Nm,(l.flatMap nameBytes).length≤l.length*65539
 | []=>Nat.zero_le _
 | n :: l=>by
   have h1:=names_bytes l
   have h2:=nameBytes_length n
   rw [List.flatMap_cons,List.length_append,List.length_cons]
   omega
theorem enBytes_length (e:En):(enBytes e).length≤140000+e.names.length*65539:=by
 have h1:=wBytes_length e.nd.bytes
 have h2:=wBytes_length e.data
 have h3:=names_bytes e.names
 unfold enBytes
 simp only [List.length_append]
 have:(Co.wShort e.names.length).length=2:=rfl
 omega
theorem ens_length:∀ t:T,(t.flatMap enBytes).length≤t.length*140000+(flat t).length*65539
 | []=>Nat.zero_le _
 | e :: t=>by
   have h1:=ens_length t
   have h2:=enBytes_length e
   have h3:(flat (e :: t)).length=e.names.length+(flat t).length:=by simp [flat]
   rw [List.flatMap_cons,List.length_append,List.length_cons,h3]
   omega
theorem flat_take_TsSave (t:T) (j:Nat):(flat (t.take j)).length≤(flat t).length:=by
 conv=>rhs;rw [← List.take_append_drop j t]
 unfold flat
 rw [List.flatMap_append,List.length_append]
 omega
theorem take_bytes {t:T} {j:Nat} {e:En} (he:t[j]?=some e):(t.take (j+1)).flatMap enBytes=(t.take j).flatMap enBytes++enBytes e:=by
 obtain ⟨h,rfl⟩:=List.getElem?_eq_some_iff.1 he
 rw [List.take_succ_eq_append_getElem h,List.flatMap_append,List.flatMap_cons,List.flatMap_nil,List.append_nil]
theorem take_names {l:List Nm} {j:Nat} {n:Nm} (he:l[j]?=some n):(l.take (j+1)).flatMap nameBytes=(l.take j).flatMap nameBytes++Co.wBytes n.1++Co.wShort (Nd.lo16 n.2):=by
 obtain ⟨h,rfl⟩:=List.getElem?_eq_some_iff.1 he
 rw [List.take_succ_eq_append_getElem h,List.flatMap_append,List.flatMap_cons,List.flatMap_nil,List.append_nil,List.append_assoc]
 rfl
theorem Good.save_few {t:T} (h:Good t) (j:Nat) {e:En} (he:e ∈ t) (k:Nat):(Co.wShort t.length++(t.take j).flatMap enBytes++Co.wBytes e.nd.bytes++Co.wBytes e.data++Co.wShort e.names.length++(e.names.take k).flatMap nameBytes).length≤1099511400000:=by
 have h1:=ens_length (t.take j)
 have h2:=flat_take_TsSave t j
 have h3:=h.flat_le
 have h4:=h.few
 have h5:(t.take j).length≤t.length:=by rw [List.length_take];omega
 have h6:=wBytes_length e.nd.bytes
 have h7:=wBytes_length e.data
 have h8:=names_bytes (e.names.take k)
 have h9:(e.names.take k).length≤e.names.length:=by rw [List.length_take];omega
 have h10:=h.names_le he
 have h11:(Co.wShort t.length).length=2:=rfl
 have h12:(Co.wShort e.names.length).length=2:=rfl
 simp only [List.length_append]
 omega
end Tr
namespace Tm
variable {p:Nat} {av:Value} {gs:List Nat} {S:Nat→Prop} {t:T} {w:World}
theorem strOf_size (l:Bs):(strOf l).size=l.length:=rfl
theorem conv_any (x:Bs) (w:World):∃ (c:Nat) (w':World),(convert 9 39 (.string (strOf x))).run Tryz.prog w=.ok (.slice (some ⟨w.heap.size,0,none⟩) x.length c) w'∧x.length≤c∧Rd w' (some ⟨w.heap.size,0,none⟩) x∧Below w.heap.size w w':=by
 have h:=Lib.run_convert_string_bytes w 9 39 5 (strOf x) Tryz.underlying9 Tryz.underlying39 Tryz.underlying5
 rw [strOf_size] at h
 refine ⟨_,_,h,by rw [← strOf_size x];exact grownCap_ge _ _ _ _,fun hl=>⟨w.heap.size,0,rfl,by rw [Lib.bytesWorld_size];omega,fun j y hj=>?_⟩,?_⟩
 ·obtain ⟨hj1,rfl⟩:=List.getElem?_eq_some_iff.1 hj
  rw [Nat.zero_add,Lib.bytesWorld_cell w _ (strOf x) j hj1]
  simp [strOf,List.getD,hj]
 ·exact ⟨rfl,rfl,rfl,by rw [Lib.bytesWorld_size];omega,fun b hb=>Lib.bytesWorld_at_old w _ _ b hb⟩
def SvAns (b:Bs) (w:World) (e:Ending) (w':World):Prop:=∃ X c,e=.returned (.slice X b.length c)∧b.length≤c∧Rd w' X b∧w'.ownsRow w.heap.size 5 1 (.slice X b.length c) b.length (Lib.byteCells b)∧Below w.heap.size w w'
theorem bytes3 {C:WSaid} {v:Value} {w0 w w2:World} {l:Bs} (h:WAt C v w0 l w) (hl:l.length≤1099511500000) (hb2:Below w.heap.size w w2) (A:Option Addr) (x:Bs) (c:Nat) (hr:Rd w2 A x) (hA:∀ b,A.map (·.block)=some b→w.heap.size≤b) (hc:x.length≤c) (hx:x.length≤1000000) :
    Calls Tryz.prog 76 #[v,.slice A x.length c] w2 fun e w'=>(∃ x,e=.returned x)∧Hid (WAt C v w0 (l++Co.wBytes x) w')∧Hid (∀ b,w.heap.size≤b→b<w2.heap.size→w'.heap[b]?=w2.heap[b]?):=by
 obtain ⟨S,hat,hb,hS⟩:=h
 refine (C.bytes (C.keep hat hb2.size (fun b hB=>hb2.block b (C.lt hat b hB))) hl A x c hr hc hx fun h0 b hA2 hB=>?_).mono fun e w' h=>?_
 ·have:=hA b hA2
  have:=C.lt hat b hB
  omega
 ·obtain ⟨k1,k2⟩:=WAt.out (v:=v) (C:=C) (hb.trans (hb2.mono hb.size)) hS h
  obtain ⟨_,S',_,hm,_⟩:=h
  exact ⟨k1,k2,fun b h1 h2=>hm.block b h2 fun h3=>by have:=C.lt hat b h3;omega⟩
theorem wat_eq {C:WSaid} {v:Value} {w0 w:World} {l l':Bs} (h:WAt C v w0 l w) (e:l=l'):WAt C v w0 l' w:=e ▸ h
set_option maxHeartbeats 4000000 in
set_option maxRecDepth 100000 in
theorem save_any (h:TIn p av gs S t w) (hG:Tr.Good t):Calls Tryz.prog 28 #[.pointer (some ⟨p,0,none⟩)] w (SvAns (Tr.save t) w):=by
 have H:=Lib.hid h
 have HG:=Lib.hid hG
 have hgl:=h.each.len
 obtain ⟨A,c,rfl,hc,hA⟩:=own_form h.row
 have HA:=Lib.hid hA
 obtain ⟨n,hn⟩:∃ n,n=gs.length:=⟨_,rfl⟩
 have HGN:Hid (n=gs.length):=hn
 have HN:Hid (n=t.length):=hn.trans hgl
 have hn64:n≤64:=by have:=hG.few;have:=HN.out;omega
 have HEN:Hid (∀ (e:En),e ∈ t→∀ j k,(Co.wShort n++(t.take j).flatMap Tr.enBytes++Co.wBytes e.nd.bytes++Co.wBytes e.data++Co.wShort e.names.length++(e.names.take k).flatMap Tr.nameBytes).length≤1099511400000):=fun e he j k=>by rw [HN.out];exact hG.save_few j he k
 have HBX:∀ W,Below w.heap.size w W→W.cell? ⟨p,0,none⟩=some (.slice A n c):=fun W hW=>by rw [HGN.out];exact (H.out.below hW).box.cell 0
 have HBX:=Lib.hid HBX
 clear h hG hA hgl hn
 go_enter Tryz.func28,Tryz.ntmps28
 go_wp2_with fail
 refine (WAt.new wsaid w).mono ?_
 rintro e w1 ⟨a,rfl,HW1⟩
 have c0:w1.cell? ⟨p,0,none⟩=some (.slice A n c):=HBX.out _ (WAt.low HW1.out)
 go_wp2_with fail
 refine (WAt.short HW1.out (by simp) n (by omega)).mono ?_
 rintro e w2 ⟨⟨x2,rfl⟩,HW2⟩
 clear c0
 have c0:w2.cell? ⟨p,0,none⟩=some (.slice A n c):=HBX.out _ (WAt.low HW2.out)
 have HST:Hid (WAt wsaid (.pointer (some a)) w (Co.wShort n++(t.take 0).flatMap Tr.enBytes) w2):=wat_eq HW2.out (by simp)
 clear HW1 HW2
 go_wp2_with fail
 go_loopw [23] (fun t23 wr=>∃ j:Nat,t23=.int .i64 j∧j≤n∧Hid (WAt wsaid (.pointer (some a)) w (Co.wShort n++(t.take j).flatMap Tr.enBytes) wr)) (fun t23 _=>n-(match t23 with|.int _ k=>k.toNat|_=>0))
 case atStart=>exact ⟨0,rfl,Nat.zero_le _,HST⟩
 case round =>
  clear HST c0
  obtain ⟨j,rfl,hj,HW⟩:=hrel
  by_cases hk:j<n
  ·obtain ⟨e,he⟩:∃ e,t[j]?=some e:=⟨_,List.getElem?_eq_getElem (by rw [← HN.out];exact hk)⟩
   have hem:e ∈ t:=List.mem_of_getElem? he
   obtain ⟨g,S1,hg,hE,_⟩:=(H.out.below (WAt.low HW.out)).each.get he
   obtain ⟨g0,_,hg0,hE0,_⟩:=H.out.each.get he
   obtain rfl:g=g0:=by rw [hg] at hg0;injection hg0
   obtain ⟨q,rfl,_,_,hql,hcell⟩:=HA.out (by rw [← HGN.out];omega)
   have c1:wr.cell? ⟨q,j,none⟩=some (.pointer (some ⟨g,0,none⟩)):=((WAt.low HW.out).cell (p:=⟨q,j,none⟩) hql).trans (hcell j _ (by simp [ptrCells,hg]))
   have hlt2:(j:Int)<(n:Int):=by omega
   have HR:Hid (e.nd.Right):=(HG.out.each e hem).nd
   have HLEN:=Lib.hid (HEN.out e hem j)
   have HNX:Hid ((t.take (j+1)).flatMap Tr.enBytes=(t.take j).flatMap Tr.enBytes++Tr.enBytes e):=Tr.take_bytes he
   have HEB:Hid (Tr.enBytes e=Co.wBytes e.nd.bytes++(Co.wBytes e.data++(Co.wShort e.names.length++e.names.flatMap Tr.nameBytes))):=rfl
   have hdl:e.data.length≤4096:=by
    have h1:=(HG.out.each e hem).size
    have h2:=(HG.out.each e hem).nd.2.2.2.2.2.1
    omega
   have hnl:e.names.length≤4194240:=HG.out.names_le hem
   have HID:Hid (∀ m ∈ e.names,∃ k:Nat,m.2=k∧k≤65535∧m.1.length≤16):=fun m hm=>by
    obtain ⟨_,h1⟩:=HG.out.leads e hem m hm
    obtain ⟨e2,h2,h3⟩:=Tr.find_isSome.1 h1
    have h4:=(HG.out.each e2 h2).nd
    have h5:=(HG.out.each e hem).good m hm
    refine ⟨m.2.toNat,?_,?_,?_⟩
    ·have:=h4.1;omega
    ·have:=h4.1;have:=h4.2.1;omega
    ·simp only [Pa.good,Bool.and_eq_true,decide_eq_true_eq] at h5
     omega
   obtain ⟨dv,nv,hE0,rfl⟩:=hE0
   obtain ⟨dv2,nv2,hE,rfl⟩:=hE
   have hsame:dv2=dv∧nv2=nv:=by
    have k1:=((WAt.low HW.out).cell (p:=⟨g,6,none⟩) hE0.box.lt).trans (hE0.box.cell 6)
    have k2:=((WAt.low HW.out).cell (p:=⟨g,7,none⟩) hE0.box.lt).trans (hE0.box.cell 7)
    have k3:=hE.box.cell 6
    have k4:=hE.box.cell 7
    rw [k1] at k3
    rw [k2] at k4
    injection k3 with k3
    injection k4 with k4
    exact ⟨k3.symm,k4.symm⟩
   obtain ⟨rfl,rfl⟩:=hsame
   clear hE
   obtain ⟨XD,cd,hdv,hcd,hrd⟩:=Go.Proofs.YtjoedamiilgajaaGreat.own_form hE0.data
   obtain ⟨XN,cn,hnv,hcn,hNA⟩:=hE0.names.form
   subst hdv hnv
   have HD:=Lib.hid hrd
   have HNA:=Lib.hid hNA
   have HEB0:=Lib.hid hE0.box
   have HCD:=Lib.hid hcd
   clear he hem hg hg0 hcell hE0 hrd hNA hcd hcn
   obtain ⟨⟨id,kind,links,size,till,shut⟩,data,names⟩:=e
   dsimp only at HR HLEN HNX HEB hdl hnl HID HD HNA HCD HEB0
   have hcells:=HEB0.out.below (WAt.low HW.out) HEB0.out.lt
   have d0:wr.cell? ⟨g,0,none⟩=some (.int .i64 id):=hcells.cell 0
   have d1:wr.cell? ⟨g,1,none⟩=some (.int .i64 kind):=hcells.cell 1
   have d2:wr.cell? ⟨g,2,none⟩=some (.int .i64 links):=hcells.cell 2
   have d3:wr.cell? ⟨g,3,none⟩=some (.int .i64 size):=hcells.cell 3
   have d4:wr.cell? ⟨g,4,none⟩=some (.int .u64 (till:Nat)):=hcells.cell 4
   have d5:wr.cell? ⟨g,5,none⟩=some (.bool shut):=hcells.cell 5
   clear hcells
   go_wp2_with fail
   refine (enc_yes_as wsaid wr HR.out).mono ?_
   rintro e w3 ⟨X3,k3,rfl,hk3,HO3,HR3,HB3⟩
   clear d0 d1 d2 d3 d4 d5 c1
   have h16:(Nd.bytes ⟨id,kind,links,size,till,shut⟩).length=16:=Nd.bytes_length _
   have HP0:Hid ((Co.wShort n++(t.take j).flatMap Tr.enBytes++Co.wBytes (Nd.bytes ⟨id,kind,links,size,till,shut⟩)++Co.wBytes data++Co.wShort names.length++(names.take 0).flatMap Tr.nameBytes).length≤1099511400000):=HLEN.out 0
   have HC4:Hid (Calls Tryz.prog 76 #[.pointer (some a),.slice X3 16 k3] w3 (WRet wsaid (.pointer (some a)) w (Co.wShort n++(t.take j).flatMap Tr.enBytes++Co.wBytes (Nd.bytes ⟨id,kind,links,size,till,shut⟩)))):=by
    have:=WAt.bytes2 HW.out (by have:=HP0.out;simp only [List.length_append] at this ⊢;omega) HB3.out X3 (Nd.bytes ⟨id,kind,links,size,till,shut⟩) k3 HR3.out (fun b hb=>by
     have h1:=HO3.out
     rcases h1.2 with ⟨e1,e2⟩|⟨g9,cap,cur,e1,h2,_⟩
     ·injection e1 with e1;subst e1;cases hb
     ·injection e1 with e1;subst e1;injection hb with hb;have hb:g9=b:=hb;omega) (by rw [h16];exact hk3) (by rw [h16];omega)
    rw [h16] at this
    exact this
   clear hk3 HO3 HR3 h16
   go_wp2_with fail
   refine HC4.out.mono ?_
   rintro e w4 ⟨⟨x4,rfl⟩,HW4⟩
   clear HC4 HB3
   have d6:w4.cell? ⟨g,6,none⟩=some (.slice XD data.length cd):=(HEB0.out.below (WAt.low HW4.out) HEB0.out.lt).cell 6
   go_wp2_with fail
   refine (WAt.bytes HW4.out (by have:=HP0.out;simp only [List.length_append] at this ⊢;omega) XD data cd HD.out HCD.out (by omega)).mono ?_
   rintro e w5 ⟨⟨x5,rfl⟩,HW5⟩
   clear HW4 d6
   have d7:w5.cell? ⟨g,7,none⟩=some (.slice XN names.length cn):=(HEB0.out.below (WAt.low HW5.out) HEB0.out.lt).cell 7
   go_wp2_with fail
   refine (WAt.short HW5.out (by have:=HP0.out;simp only [List.length_append] at this ⊢;omega) names.length (by omega)).mono ?_
   rintro e w6 ⟨⟨x6,rfl⟩,HW6⟩
   clear HW5 d7
   have d7:w6.cell? ⟨g,7,none⟩=some (.slice XN names.length cn):=(HEB0.out.below (WAt.low HW6.out) HEB0.out.lt).cell 7
   have HST:Hid (WAt wsaid (.pointer (some a)) w (Co.wShort n++(t.take j).flatMap Tr.enBytes++Co.wBytes (Nd.bytes ⟨id,kind,links,size,till,shut⟩)++Co.wBytes data++Co.wShort names.length++(names.take 0).flatMap Tr.nameBytes) w6):=wat_eq HW6.out (by simp)
   clear HW6 HP0 HW
   go_wp2_with fail
   clear d7
   go_loopw [56] (fun t56 wr=>∃ i:Nat,t56=.int .i64 i∧i≤names.length∧Hid (WAt wsaid (.pointer (some a)) w (Co.wShort n++(t.take j).flatMap Tr.enBytes++Co.wBytes (Nd.bytes ⟨id,kind,links,size,till,shut⟩)++Co.wBytes data++Co.wShort names.length++(names.take i).flatMap Tr.nameBytes) wr)) (fun t56 _=>names.length-(match t56 with|.int _ k=>k.toNat|_=>0))
   case atStart=>exact ⟨0,rfl,Nat.zero_le _,HST⟩
   case round =>
    clear HST
    obtain ⟨i,rfl,hi,HV⟩:=hrel
    by_cases hk2:i<names.length
    ·obtain ⟨⟨x,xi⟩,hm⟩:∃ m,names[i]?=some m:=⟨_,List.getElem?_eq_getElem hk2⟩
     obtain ⟨k,hxk,hk65,hx16⟩:=HID.out (x,xi) (List.mem_of_getElem? hm)
     dsimp only at hxk hx16
     subst hxk
     obtain ⟨q2,rfl,_,_,hql2,hcell2⟩:=HNA.out (by omega)
     have hlow:=WAt.low HV.out
     have c1:wr.cell? ⟨q2,i*2,none⟩=some (.string (strOf x)):=(hlow.cell (p:=⟨q2,i*2,none⟩) hql2).trans (hcell2 i _ hm).1
     have c2:wr.cell? ⟨q2,i*2+1,none⟩=some (.int .i64 (k:Nat)):=(hlow.cell (p:=⟨q2,i*2+1,none⟩) hql2).trans (hcell2 i _ hm).2
     have hlt3:(i:Int)<(names.length:Int):=by omega
     have HTK:Hid ((names.take (i+1)).flatMap Tr.nameBytes=(names.take i).flatMap Tr.nameBytes++Co.wBytes x++Co.wShort k):=by
      have:=Tr.take_names hm
      rw [show Nd.lo16 ((x,((k:Nat):Int)):Nm).2=k by unfold Nd.lo16;show ((k:Int) % 65536).toNat=k;omega] at this
      exact this
     have hP1:=HLEN.out (i+1)
     rw [HTK.out] at hP1
     have HP1:=Lib.hid hP1
     obtain ⟨ca,wb,hcv,hca,hrb,hbb⟩:=conv_any x (wr.alloc (.cells #[.string (strOf x),.int .i64 (k:Nat)] 116))
     rw [World.size_alloc] at hcv hrb
     have HBB:Hid (Below wr.heap.size wr wb):=(below_new wr _).trans (hbb.mono (by rw [World.size_alloc];omega))
     have HNB:Hid (Blk wb wr.heap.size 116 [.string (strOf x),.int .i64 (k:Nat)]):=(Blk.new wr _ _).below hbb (by rw [World.size_alloc];omega)
     have HCB:Hid (Calls Tryz.prog 76 #[.pointer (some a),.slice (some ⟨wr.heap.size+1,0,none⟩) x.length ca] wb fun e w'=>(∃ x,e=.returned x)∧Hid (WAt wsaid (.pointer (some a)) w (Co.wShort n++(t.take j).flatMap Tr.enBytes++Co.wBytes (Nd.bytes ⟨id,kind,links,size,till,shut⟩)++Co.wBytes data++Co.wShort names.length++(names.take i).flatMap Tr.nameBytes++Co.wBytes x) w')∧Hid (∀ b,wr.heap.size≤b→b<wb.heap.size→w'.heap[b]?=wb.heap[b]?)) :=
      bytes3 HV.out (by have:=HP1.out;simp only [List.length_append] at this ⊢;omega) HBB.out (some ⟨wr.heap.size+1,0,none⟩) x ca hrb (fun b hb=>by injection hb with hb;have hb:wr.heap.size+1=b:=hb;omega) hca (by omega)
     clear hm hcell2 hlow hP1 hrb hbb hca
     go_wp2_with fail
     refine HCB.out.mono ?_
     rintro e wc ⟨⟨xc,rfl⟩,HWC,HKC⟩
     clear HCB hcv c1 c2
     have HNC:Hid (Blk wc wr.heap.size 116 [.string (strOf x),.int .i64 (k:Nat)]):=(HKC.out _ (Nat.le_refl _) HNB.out.lt).trans HNB.out
     have c3:wc.cell? ⟨wr.heap.size,1,none⟩=some (.int .i64 (k:Nat)):=HNC.out.cell 1
     go_wp2_with fail
     refine (WAt.short HWC.out (by have:=HP1.out;simp only [List.length_append] at this ⊢;omega) k (by omega)).mono ?_
     rintro e wd ⟨⟨xd,rfl⟩,HWD⟩
     have HNEXT:Hid (WAt wsaid (.pointer (some a)) w (Co.wShort n++(t.take j).flatMap Tr.enBytes++Co.wBytes (Nd.bytes ⟨id,kind,links,size,till,shut⟩)++Co.wBytes data++Co.wShort names.length++(names.take (i+1)).flatMap Tr.nameBytes) wd):=wat_eq HWD.out (by rw [HTK.out];simp only [List.append_assoc])
     clear HWC HWD HTK HP1 HNC HBB HNB c3
     go_wp2_with fail
     go_roundw
     case rel=>exact ⟨i+1,by go_num,by omega,HNEXT⟩
     case measure=>simp;omega
    ·obtain rfl:i=names.length:=by omega
     have HNEXT:Hid (WAt wsaid (.pointer (some a)) w (Co.wShort n++(t.take (j+1)).flatMap Tr.enBytes) wr):=wat_eq HV.out (by rw [HNX.out,HEB.out,List.take_length];simp only [List.append_assoc])
     go_wp2_with fail
     go_roundw
     case rel=>exact ⟨j+1,by go_num,by omega,HNEXT⟩
     case measure=>simp;omega
  ·obtain rfl:j=n:=by omega
   have HEND:Hid (WAt wsaid (.pointer (some a)) w (Tr.save t) wr):=wat_eq HW.out (by rw [HN.out,List.take_length];rfl)
   go_wp2_with fail
   refine (WAt.done HEND.out).mono ?_
   rintro e w9 ⟨X,c9,rfl,hc9,HO9,HX9,HB9,HW9⟩
   have HANS:Hid (SvAns (Tr.save t) w (.returned (.slice X (Tr.save t).length c9)) w9):=by
    obtain ⟨X',c',e1,_,hr⟩:=Go.Proofs.YtjoedamiilgajaaGreat.own_form HO9.out
    injection e1 with e1 e2 e3
    subst e1
    exact ⟨X,c9,rfl,hc9,hr,own_up HO9.out HX9.out,WAt.low HW9.out⟩
   clear HO9 HX9 HB9 HW9 hc9
   go_wp2_with fail
   go_ret
   exact HANS.out
end Tm
end Go.Proofs.YtjoedamiilgajaaGreat
namespace Go.Proofs.YtjoedamiilgajaaGreat
open Go.RowKit
namespace Tr
/-! Reading. -/
def ldNames:Nat→Bs→Co.Rs→Option (List Nm × Co.Rs)
 | 0,_,s=>some ([],s)
 | n+1,last,s =>
   if Pa.good (Co.bytes s).1=true∧less last (Co.bytes s).1=true then
    (ldNames n (Co.bytes s).1 (Co.num 2 (Co.bytes s).2).2).map fun r=>(((Co.bytes s).1,((Co.num 2 (Co.bytes s).2).1:Int)) :: r.1,r.2)
   else none
def ldEn (s:Co.Rs):Option (En × Co.Rs) :=
 if (ndDec (Co.bytes s).1).2≠0 then none
 else (ldNames (Co.num 2 (Co.bytes (Co.bytes s).2).2).1 [] (Co.num 2 (Co.bytes (Co.bytes s).2).2).2).bind fun r =>
  if ((Co.bytes (Co.bytes s).2).1.length:Int)=(ndDec (Co.bytes s).1).1.size then some (⟨(ndDec (Co.bytes s).1).1,(Co.bytes (Co.bytes s).2).1,r.1⟩,r.2) else none
def ldEns:Nat→Co.Rs→Option (T × Co.Rs)
 | 0,s=>some ([],s)
 | n+1,s=>(ldEn s).bind fun r=>(ldEns n r.2).map fun q=>(r.1 :: q.1,q.2)
/-! What is written is read. -/
theorem ldNames_back:∀ (l:List Nm) (last r:Bs),l.length≤65535→(∀ n ∈ l,Pa.good n.1=true∧∃ k:Nat,n.2=k∧k≤65535)→(∀ n ∈ l,less last n.1=true)→Rise l→ldNames l.length last ⟨l.flatMap nameBytes++r,0⟩=some (l,⟨r,0⟩)
 | [],_,_,_,_,_,_=>rfl
 | n :: l,last,r,hl,hg,hlast,hr=>by
   obtain ⟨x,m⟩:=n
   obtain ⟨h1,k,h2,h3⟩:=hg (x,m) (.head _)
   dsimp only at h1 h2
   subst h2
   have hx:x.length≤65535:=by
    simp only [Pa.good,Bool.and_eq_true,decide_eq_true_eq] at h1
    omega
   have e0:(((x,((k:Nat):Int)) :: l:List Nm).flatMap nameBytes)++r=Co.wBytes x++(Co.wShort k++(l.flatMap nameBytes++r)):=by
    rw [List.flatMap_cons]
    unfold nameBytes
    rw [show Nd.lo16 ((x,((k:Nat):Int)):Nm).2=k by unfold Nd.lo16;show ((k:Int) % 65536).toNat=k;omega]
    simp only [List.append_assoc]
   obtain ⟨hr1,hr2⟩:=List.pairwise_cons.1 hr
   have ih:=ldNames_back l x r (by simp at hl;omega) (fun n hn=>hg n (.tail _ hn)) (fun n hn=>hr1 n hn) hr2
   rw [List.length_cons,e0]
   unfold ldNames
   rw [Co.bytes_app x _ hx]
   dsimp only
   rw [Co.num_short,if_pos ⟨h1,hlast (x,_) (.head _)⟩]
   dsimp only
   rw [ih,Nat.mod_eq_of_lt (by omega)]
   rfl
def Slim (t:T):Prop:=∀ e ∈ t,e.names.length≤65535
theorem less_nil {x:Bs} (h:Pa.good x=true):less [] x=true:=by
 cases x with
 | nil=>exact absurd h (by decide)
 | cons a x=>rfl
theorem Good.ids {t:T} (h:Good t) {e:En} (he:e ∈ t):∀ n ∈ e.names,∃ k:Nat,n.2=k∧k≤65535:=fun n hn=>by
 obtain ⟨_,h1⟩:=h.leads e he n hn
 obtain ⟨e2,h2,h3⟩:=find_isSome.1 h1
 have h4:=(h.each e2 h2).nd
 exact ⟨n.2.toNat,by have:=h4.1;omega,by have:=h4.1;have:=h4.2.1;omega⟩
theorem ldEn_back {e:En} (h:EnOk e) (hs:e.names.length≤65535) (hi:∀ n ∈ e.names,∃ k:Nat,n.2=k∧k≤65535) (r:Bs):ldEn ⟨enBytes e++r,0⟩=some (e,⟨r,0⟩):=by
 have e0:enBytes e++r=Co.wBytes e.nd.bytes++(Co.wBytes e.data++(Co.wShort e.names.length++(e.names.flatMap nameBytes++r))):=by
  unfold enBytes
  simp only [List.append_assoc]
 have hd:e.data.length≤65535:=by
  have h1:=h.size
  have h2:=h.nd.2.2.2.2.2.1
  omega
 unfold ldEn
 rw [e0,Co.bytes_app _ _ (by rw [Nd.bytes_length];omega)]
 dsimp only
 rw [ndDec_bytes _ h.nd]
 dsimp only
 rw [if_neg (by simp),Co.bytes_app _ _ hd]
 dsimp only
 rw [Co.num_short,Nat.mod_eq_of_lt (show e.names.length<65536 by omega)]
 dsimp only
 rw [ldNames_back e.names [] r hs (fun n hn=>⟨h.good n hn,hi n hn⟩) (fun n hn=>less_nil (h.good n hn)) h.rise]
 show (if (e.data.length:Int)=e.nd.size then _ else _)=_
 rw [if_pos h.size.symm]
theorem ldEns_back:∀ (t:T) (r:Bs),(∀ e ∈ t,EnOk e∧e.names.length≤65535∧∀ n ∈ e.names,∃ k:Nat,n.2=k∧k≤65535)→ldEns t.length ⟨t.flatMap enBytes++r,0⟩=some (t,⟨r,0⟩)
 | [],_,_=>rfl
 | e :: t,r,h=>by
   obtain ⟨h1,h2,h3⟩:=h e (.head _)
   rw [List.flatMap_cons,List.append_assoc,List.length_cons]
   unfold ldEns
   rw [ldEn_back h1 h2 h3]
   show ((ldEns t.length ⟨t.flatMap enBytes++r,0⟩).map _)=_
   rw [ldEns_back t r fun e he=>h e (.tail _ he)]
   rfl
/-! What is read is what is written. -/
theorem bytes_inv (s:Co.Rs) (h:(Co.bytes s).2.why=0):s.why=0∧(Co.bytes s).1.length≤65535∧s.rem=Co.wBytes (Co.bytes s).1++(Co.bytes s).2.rem:=by
 unfold Co.bytes at h ⊢
 by_cases h0:(Co.num 2 s).1=0
 ·have e:Co.raw ((Co.num 2 s).1:Nat) (Co.num 2 s).2=([],(Co.num 2 s).2):=by unfold Co.raw;rw [if_pos (.inr (by omega))]
  rw [e] at h ⊢
  obtain ⟨h1,h2,h3⟩:=Co.short_inv s h
  refine ⟨h1,Nat.zero_le _,?_⟩
  rw [h0] at h3
  exact h3
 ·obtain ⟨h1,h2,h3⟩:=Co.raw_inv (Co.num 2 s).1 (Co.num 2 s).2 (by omega) h
  obtain ⟨k1,k2,k3⟩:=Co.short_inv s h1
  refine ⟨k1,by omega,?_⟩
  have e:Co.wBytes (Co.raw ((Co.num 2 s).1:Nat) (Co.num 2 s).2).1=Co.wShort (Co.num 2 s).1++(Co.raw ((Co.num 2 s).1:Nat) (Co.num 2 s).2).1:=by
   unfold Co.wBytes
   rw [List.take_of_length_le (by omega),h2]
  rw [e,List.append_assoc,← h3]
  exact k3
theorem ldNames_inv:∀ (n:Nat) (last:Bs) (s:Co.Rs) (l:List Nm) (s':Co.Rs),ldNames n last s=some (l,s')→s'.why=0→s.why=0∧l.length=n∧s.rem=l.flatMap nameBytes++s'.rem∧(∀ m ∈ l,Pa.good m.1=true∧∃ k:Nat,m.2=k∧k≤65535)∧(∀ m ∈ l,less last m.1=true)∧Rise l
 | 0,_,s,l,s',h,hw=>by
   unfold ldNames at h
   simp only [Option.some.injEq,Prod.mk.injEq] at h
   obtain ⟨h1,h2⟩:=h
   subst h1 h2
   exact ⟨hw,rfl,rfl,(fun _ hm=>by cases hm),(fun _ hm=>by cases hm),List.Pairwise.nil⟩
 | n+1,last,s,l,s',h,hw=>by
   unfold ldNames at h
   split at h
   ·rename_i hg
    cases hr:ldNames n (Co.bytes s).1 (Co.num 2 (Co.bytes s).2).2 with
    | none=>rw [hr] at h;cases h
    | some r =>
      rw [hr] at h
      simp only [Option.map_some,Option.some.injEq,Prod.mk.injEq] at h
      obtain ⟨h1,h2⟩:=h
      subst h1 h2
      obtain ⟨l1,s1⟩:=r
      obtain ⟨i1,i2,i3,i4,i5,i6⟩:=ldNames_inv n _ _ _ _ hr hw
      obtain ⟨k1,k2,k3⟩:=Co.short_inv _ i1
      obtain ⟨b1,b2,b3⟩:=bytes_inv s k1
      refine ⟨b1,by rw [List.length_cons,i2],?_,fun m hm=>?_,fun m hm=>?_,List.pairwise_cons.2 ⟨i5,i6⟩⟩
      ·have hnb:nameBytes ((Co.bytes s).1,((Co.num 2 (Co.bytes s).2).1:Int))=Co.wBytes (Co.bytes s).1++Co.wShort (Co.num 2 (Co.bytes s).2).1:=by
        unfold nameBytes
        rw [show Nd.lo16 (((Co.bytes s).1,((Co.num 2 (Co.bytes s).2).1:Int)):Nm).2=(Co.num 2 (Co.bytes s).2).1 by unfold Nd.lo16;show (((Co.num 2 (Co.bytes s).2).1:Int) % 65536).toNat=_;omega]
       rw [List.flatMap_cons,hnb,b3,k3,i3]
       simp only [List.append_assoc]
      ·rcases List.mem_cons.1 hm with rfl|hm
       ·exact ⟨hg.1,_,rfl,by omega⟩
       ·exact i4 m hm
      ·rcases List.mem_cons.1 hm with rfl|hm
       ·exact hg.2
       ·exact less_trans hg.2 (i5 m hm)
   ·cases h
theorem ldEn_inv {s s':Co.Rs} {e:En} (h:ldEn s=some (e,s')) (hw:s'.why=0):s.why=0∧s.rem=enBytes e++s'.rem∧e.nd.Right∧e.nd.size=(e.data.length:Nat)∧e.names.length≤65535∧Rise e.names∧∀ m ∈ e.names,Pa.good m.1=true∧∃ k:Nat,m.2=k∧k≤65535:=by
 unfold ldEn at h
 have hb:=bytes_inv s
 generalize Co.bytes s=B at h hb
 have hd:=bytes_inv B.2
 generalize Co.bytes B.2=D at h hd
 have hc:=Co.short_inv D.2
 generalize Co.num 2 D.2=C at h hc
 have hn:=ndDec_inv B.1
 generalize ndDec B.1=N at h hn
 split at h
 ·cases h
 ·rename_i hn0
  obtain ⟨n1,n2⟩:=hn (Decidable.byContradiction hn0)
  cases hr:ldNames C.1 [] C.2 with
  | none=>rw [hr] at h;cases h
  | some r =>
    obtain ⟨l,s1⟩:=r
    rw [hr] at h
    simp only [Option.bind_some] at h
    split at h
    ·rename_i hs
     simp only [Option.some.injEq,Prod.mk.injEq] at h
     obtain ⟨h1,h2⟩:=h
     subst h1 h2
     obtain ⟨i1,i2,i3,i4,_,i6⟩:=ldNames_inv _ _ _ _ _ hr hw
     obtain ⟨k1,k2,k3⟩:=hc i1
     obtain ⟨d1,d2,d3⟩:=hd k1
     obtain ⟨b1,b2,b3⟩:=hb d1
     refine ⟨b1,?_,n1,hs.symm,by show l.length≤_;omega,i6,i4⟩
     unfold enBytes
     dsimp only
     rw [n2,i2,b3,d3,k3,i3]
     simp only [List.append_assoc]
    ·cases h
theorem ldEns_inv:∀ (n:Nat) (s:Co.Rs) (t:T) (s':Co.Rs),ldEns n s=some (t,s')→s'.why=0→s.why=0∧t.length=n∧s.rem=t.flatMap enBytes++s'.rem∧∀ e ∈ t,e.nd.Right∧e.nd.size=(e.data.length:Nat)∧e.names.length≤65535∧Rise e.names∧∀ m ∈ e.names,Pa.good m.1=true∧∃ k:Nat,m.2=k∧k≤65535:=by
 intro n
 induction n with
 | zero =>
   intro s t s' h hw
   unfold ldEns at h
   simp only [Option.some.injEq,Prod.mk.injEq] at h
   obtain ⟨h1,h2⟩:=h
   subst h1 h2
   exact ⟨hw,rfl,rfl,(fun _ hm=>by cases hm)⟩
 | succ n ih =>
   intro s t s' h hw
   unfold ldEns at h
   have hE:=@ldEn_inv s
   generalize ldEn s=E at h hE
   cases E with
   | none=>cases h
   | some r =>
     obtain ⟨e,s1⟩:=r
     simp only [Option.bind_some] at h
     have hI:=ih s1
     generalize ldEns n s1=q at h hI
     cases q with
     | none=>cases h
     | some q =>
       obtain ⟨t1,s2⟩:=q
       simp only [Option.map_some,Option.some.injEq,Prod.mk.injEq] at h
       obtain ⟨h1,h2⟩:=h
       subst h1 h2
       obtain ⟨i1,i2,i3,i4⟩:=hI t1 s2 rfl hw
       obtain ⟨b1,b2,b3⟩:=hE rfl i1
       refine ⟨b1,by rw [List.length_cons,i2],by rw [List.flatMap_cons,b2,i3,List.append_assoc],fun m hm=>?_⟩
       rcases List.mem_cons.1 hm with rfl|hm
       ·exact b3
       ·exact i4 m hm
end Tr
end Go.Proofs.YtjoedamiilgajaaGreat
