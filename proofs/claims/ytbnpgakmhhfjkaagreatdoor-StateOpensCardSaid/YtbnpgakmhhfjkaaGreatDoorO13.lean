/-
  OWN WORK. TrObjA, WoLive, ShBytes, ShLast, ShWords, ShOut, ShState, SnLaw, StOpn, StPure, StOk, SnDel, SnForget
-/
import Derived.Test.YtbnpgakmhhfjkaaGreatDoorOTrRead
import Derived.Test.YtbnpgakmhhfjkaaGreatDoorO12
import Derived.Test.YtbnpgakmhhfjkaaGreatDoorO03
import Derived.Test.YtbnpgakmhhfjkaaGreatDoorO02
import Derived.Lib.UnsafeStr
import Derived.RegionTactic
import Derived.BigRegion
import Derived.Deep.QuietTactic
import Derived.BigQuiet
import Derived.Lib.Hide
import Derived.Deep.Cut
import Derived.OwnWalk
import Derived.Laws.AppendOwn
import Derived.Deep.WholeRow
import Derived.Test.YtbnpgakmhhfjkaaGreatDoorO06
import Derived.Test.YtbnpgakmhhfjkaaGreatDoorO11
import Derived.Test.YtbnpgakmhhfjkaaGreatDoorO04
namespace Go.Proofs.YtbnpgakmhhfjkaaGreatDoor
open Go.RowKit Rc
open Tr (Nm En T)
namespace Tm
abbrev One1 (v:Value) (w0:World) (t:T) (B:Nat→Prop) (w:World):Prop:=Ob.One tobj v w0 w0 (fun _=>False) t B w
variable {v:Value} {w0 w:World} {t:T} {B:Nat→Prop}
theorem One1.parts (h:One1 v w0 t B w):∃ p av gs S,v=.pointer (some ⟨p,0,none⟩)∧TIn p av gs S t w∧B=TrS p av S:=h.at_
theorem o_node (h:One1 v w0 t B w) (hG:Tr.Good t) (i:Int) :
    Calls Tryz.prog 20 #[v,.int .i64 i] w fun e w'=>e=.returned (.tuple #[(Tr.node t i).1.val,.bool (Tr.node t i).2])∧Below w.heap.size w w':=by
 obtain ⟨p,av,gs,S,hv,hT,hB⟩:=h.parts
 subst hv
 exact node_any hT hG i
theorem o_count (h:One1 v w0 t B w):Calls Tryz.prog 87 #[v] w fun e w'=>e=.returned (.int .i64 (t.length:Nat))∧w'=w:=by
 obtain ⟨p,av,gs,S,hv,hT,hB⟩:=h.parts
 subst hv
 exact count_any hT
end Tm
end Go.Proofs.YtbnpgakmhhfjkaaGreatDoor
namespace Go.Proofs.YtbnpgakmhhfjkaaGreatDoor
open Go.RowKit Rc
open Tr (Nm En T)
namespace Wo
def live (t:T) (now:Nat):List Int:=(t.filter fun e=>kept e.nd now).map (·.nd.id)
theorem live_append (a b:T) (now:Nat):live (a++b) now=live a now++live b now:=by simp [live]
theorem live_one (e:En) (now:Nat):live [e] now=if kept e.nd now then [e.nd.id] else []:=by
 unfold live
 cases h:kept e.nd now <;> simp [h]
theorem live_length (t:T) (now:Nat):(live t now).length≤t.length:=by
 unfold live;rw [List.length_map];exact List.length_filter_le _ _
structure Part (t A B:T) (i:Int):Prop where
 eq:t=A++B
 lo:∀ e ∈ A,e.nd.id<i
 hi:∀ e ∈ B,i≤e.nd.id
theorem Part.start {t:T} (hG:Tr.Good t):Part t [] t 0:=⟨rfl,fun e h=>by simp at h,fun e h=>(hG.each e h).nd.1⟩
theorem Part.next {t A B:T} {i:Int} (hG:Tr.Good t) (h:Part t A B i) (hB:B≠[]):i≤65535 ∧
    ((∃ e B',B=e :: B'∧e.nd.id=i∧Tr.node t i=(e.nd,true)∧Part t (A++[e]) B' (i+1))∨((Tr.node t i).2=false∧Part t A B (i+1))):=by
 cases B with
 | nil=>exact absurd rfl hB
 | cons e B' =>
   have hm:e ∈ t:=by rw [h.eq];simp
   have h1:=h.hi e (.head _)
   have h2:=(hG.each e hm).nd.2.1
   have hr:=hG.rise
   rw [h.eq] at hr
   have hr2:=(List.pairwise_append.1 hr).2.1
   refine ⟨by omega,?_⟩
   by_cases hi:e.nd.id=i
   ·refine .inl ⟨e,B',rfl,hi,?_,?_,?_,?_⟩
    ·have hf:Tr.find t i=some e:=by
      unfold Tr.find
      rw [h.eq,List.find?_append]
      rw [List.find?_eq_none.2 (fun a ha=>by have:=h.lo a ha;simp;omega)]
      simp [hi]
     unfold Tr.node Tr.ndOf
     rw [hf];rfl
    ·rw [h.eq];simp
    ·intro a ha
     rcases List.mem_append.1 ha with ha|ha
     ·have:=h.lo a ha;omega
     ·simp at ha;subst ha;omega
    ·intro b hb
     have:=(List.pairwise_cons.1 hr2).1 b hb
     omega
   ·refine .inr ⟨?_,h.eq,fun a ha=>by have:=h.lo a ha;omega,fun b hb=>?_⟩
    ·have hf:Tr.find t i=none:=by
      unfold Tr.find
      rw [h.eq,List.find?_eq_none]
      intro a ha
      rcases List.mem_append.1 ha with ha|ha
      ·have:=h.lo a ha;simp;omega
      ·rcases List.mem_cons.1 ha with rfl|ha
       ·simpa using hi
       ·have:=(List.pairwise_cons.1 hr2).1 a ha;simp;omega
     unfold Tr.node
     rw [hf];rfl
    ·rcases List.mem_cons.1 hb with rfl|hb
     ·omega
     ·have:=(List.pairwise_cons.1 hr2).1 b hb;omega
theorem live_in {t:T} (hG:Tr.Good t) (now:Nat):∀ x ∈ live t now,-9223372036854775808≤x∧x≤9223372036854775807:=by
 intro x hx
 unfold live at hx
 obtain ⟨e,he,rfl⟩:=List.mem_map.1 hx
 have:=(hG.each e (List.mem_filter.1 he).1).nd
 have h1:=this.1
 have h2:=this.2.1
 omega
def LiveAns (l:List Int) (w:World) (e:Ending) (w':World):Prop:=∃ A c,e=.returned (.slice A l.length c)∧l.length≤c∧Hid (RdI w' A l)∧Hid (Below w.heap.size w w')
set_option maxHeartbeats 4000000 in
set_option maxRecDepth 100000 in
theorem live_any {v:Value} {w0 w:World} {t:T} {B0:Nat→Prop} (h:Tm.One1 v w0 t B0 w) (hG:Tr.Good t) (now:Nat) :
    Calls Tryz.prog 157 #[v,.int .u64 (now:Nat)] w (LiveAns (live t now) w):=by
 obtain ⟨p,_,_,_,rfl,_,_⟩:=h.parts
 have HO:=Lib.hid h
 have HG:=Lib.hid hG
 have HEND:Hid (∀ (x:Value) (W:World),IAt w.heap.size x (live t now) w W→LiveAns (live t now) w (.returned x) W):=by
  intro x W hI
  obtain ⟨A,c,rfl,hc,hr⟩:=hI.rdi (live_in hG now)
  exact ⟨A,c,rfl,hc,hr,hI.2.1⟩
 have HC:=Lib.hid (Tm.o_count h)
 have HP0:=Lib.hid (Part.start hG)
 obtain ⟨N,hN⟩:∃ N,N=t.length:=⟨_,rfl⟩
 have hfew:N≤64:=by rw [hN];exact hG.few
 have HN:=Lib.hid hN
 rw [← hN] at HC
 clear h hG hN
 go_enter Tryz.func157,Tryz.ntmps157
 go_wp2_with fail
 refine HC.out.mono ?_
 rintro e w1 ⟨rfl,hw1⟩
 obtain rfl:=hw1.symm
 go_wp2_with fail
 go_loopw [5,6,7] (fun t5 t6 t7 wr=>∃ (A B:T) (i n:Nat),t6=.int .i64 (i:Nat)∧t7=.int .i64 (n:Nat)∧i≤65536∧n≤64∧Hid (n=B.length)∧Hid (Part t A B (i:Nat))∧Hid (A.length≤64)∧Hid (IAt w.heap.size t5 (live A now) w wr)) (fun _ t6 _ _=>65536-(intOf t6).toNat)
 case atStart=>exact ⟨[],t,0,N,rfl,rfl,by omega,hfew,HN.out,HP0.out,by show _≤_;simp,IAt.nil w⟩
 case round =>
  obtain ⟨A,B,i,n,rfl,rfl,hi,hn,HNB,HPT,HAL,HI⟩:=hrel
  by_cases h0:0<n
  ·have hBn:B≠[]:=by intro e2;have:=HNB.out;rw [e2] at this;simp at this;omega
   obtain ⟨hi2,hways⟩:=HPT.out.next HG.out hBn
   have HOw:=Lib.hid (HO.out.later HI.out.2.1)
   have HND:=Lib.hid (Tm.o_node HOw.out HG.out (i:Nat))
   have hgt:(0:Int)<(n:Int):=by omega
   have hi3:i≤65535:=by omega
   have ewi:IntKind.i64.wrap ((i:Int)+1)=((i+1:Nat):Int):=by simp [IntKind.wrap,IntKind.bits,IntKind.signed];omega
   have ewn:IntKind.i64.wrap ((n:Int)-1)=((n-1:Nat):Int):=by simp [IntKind.wrap,IntKind.bits,IntKind.signed];omega
   clear hi2 hBn
   rcases hways with ⟨eN,B',hBe,hid,hnode,hpart⟩|⟨hno,hpart⟩
   ·rw [hnode] at HND
    have HK:=Lib.hid (fun w=>kept_any eN.nd now w)
    have HPN:=Lib.hid hpart
    have HNB2:Hid (n-1=B'.length):=by show _=_;have:=HNB.out;rw [hBe] at this;simp at this;omega
    have HAL2:Hid ((A++[eN]).length≤64):=by
     show _≤_
     have h1:t.length≤64:=HG.out.few
     have h2:=hpart.eq
     rw [h2,List.length_append] at h1
     omega
    have HLV:Hid (live (A++[eN]) now=if kept eN.nd now then live A now++[(i:Int)] else live A now):=by
     show _=_
     rw [live_append,live_one,hid]
     cases kept eN.nd now <;> simp
    have HLL:Hid ((live A now).length≤64):=Nat.le_trans (live_length A now) HAL.out
    obtain ⟨l,hl⟩:∃ l,l=live A now:=⟨_,rfl⟩
    rw [← hl] at HI HLV HLL
    clear hl hBe hid hnode hpart HPT HNB HAL
    obtain ⟨⟨id,kind,links,size,till,shut⟩,dt,nms⟩:=eN
    obtain ⟨q,hq⟩:∃ q,q=kept ⟨id,kind,links,size,till,shut⟩ now:=⟨_,rfl⟩
    simp only at HND HK HLV
    rw [← hq] at HK HLV
    rw [as_] at HND HK
    clear hq
    go_wp2_with fail
    refine HND.out.mono ?_
    rintro e w2 ⟨rfl,hb2⟩
    have hb3:=below_new w2 (.cells #[.int .i64 id,.int .i64 kind,.int .i64 links,.int .i64 size,.int .u64 (till:Nat),.bool shut] 31)
    have hblk:Blk (w2.alloc (.cells #[.int .i64 id,.int .i64 kind,.int .i64 links,.int .i64 size,.int .u64 (till:Nat),.bool shut] 31)) w2.heap.size 31 (ndc id kind links size till shut):=Blk.new w2 _ _
    have HI3:=Lib.hid (HI.out.below (hb2.trans (hb3.mono hb2.size)))
    clear HND hb2 hb3 HI hblk HOw
    go_wp2_with fail
    refine (HK.out _).mono ?_
    rintro e w4 ⟨rfl,hb4⟩
    have HI4:=Lib.hid (HI3.out.below hb4)
    have hll:=HLL.out
    clear HI3 hb4
    cases q with
    | true =>
      have hlv:=HLV.out
      rw [if_pos rfl] at hlv
      have HL2:=Lib.hid hlv
      clear hlv HLV
      go_wp2_with (at_builtin;refine wpList_append_num rfl (.tmp 31) (.tmp 33) rfl (i:Int) rfl HI4.out w4.heap.size 3 rfl rfl rfl (by omega) ?_;intro v' w' HI5)
      go_roundw
      case rel =>
       refine ⟨_,B',i+1,n-1,by go_num,by go_num,by omega,by omega,HNB2,HPN,HAL2,?_⟩
       show IAt _ _ _ _ _
       rw [HL2.out]
       exact HI5.out
      case measure=>simp [intOf];omega
    | false =>
      have hlv:=HLV.out
      rw [if_neg (by simp)] at hlv
      have HL2:=Lib.hid hlv
      clear hlv HLV
      go_wp2_with fail
      go_roundw
      case rel =>
       refine ⟨_,B',i+1,n-1,by go_num,by go_num,by omega,by omega,HNB2,HPN,HAL2,?_⟩
       show IAt _ _ _ _ _
       rw [HL2.out]
       exact HI4.out
      case measure=>simp [intOf];omega
   ·have HPN:=Lib.hid hpart
    clear hpart HPT
    obtain ⟨⟨⟨a1,a2,a3,a4,a5,a6⟩,ok⟩,hna⟩:∃ x,x=Tr.node t (i:Nat):=⟨_,rfl⟩
    rw [← hna] at hno HND
    simp only at hno HND
    subst hno
    rw [as_] at HND
    clear hna
    go_wp2_with fail
    refine HND.out.mono ?_
    rintro e w2 ⟨rfl,hb2⟩
    have hb3:=below_new w2 (.cells #[.int .i64 a1,.int .i64 a2,.int .i64 a3,.int .i64 a4,.int .u64 (a5:Nat),.bool a6] 31)
    have HI3:=Lib.hid (HI.out.below (hb2.trans (hb3.mono hb2.size)))
    clear HND hb2 hb3 HI HOw
    go_wp2_with fail
    go_roundw
    case rel=>exact ⟨A,B,i+1,n,by go_num,rfl,by omega,hn,HNB,HPN,HAL,HI3⟩
    case measure=>simp [intOf];omega
  ·have hn0:n=0:=by omega
   subst hn0
   have hB:B=[]:=List.eq_nil_of_length_eq_zero HNB.out.symm
   have hA:A=t:=by have:=HPT.out.eq;rw [hB,List.append_nil] at this;exact this.symm
   have hiA:=HI.out
   rw [hA] at hiA
   have HL:=Lib.hid (HEND.out _ _ hiA)
   clear hiA
   clear hA hB
   go_wp2_with fail
   go_ret
   exact HL.out
set_option maxHeartbeats 1000000 in
set_option maxRecDepth 100000 in
theorem bound_any {v:Value} {w0 w:World} {t:T} {B0:Nat→Prop} (h:Tm.One1 v w0 t B0 w) (hG:Tr.Good t) (now:Nat) :
    Calls Tryz.prog 115 #[v,.int .u64 (now:Nat)] w fun e w'=>e=.returned (.bool (decide (0<(live t now).length)))∧Below w.heap.size w w':=by
 have HL:=Lib.hid (live_any h hG now)
 obtain ⟨p,_,_,_,rfl,_,_⟩:=h.parts
 clear h hG
 obtain ⟨l,hl⟩:∃ l,l=live t now:=⟨_,rfl⟩
 rw [← hl] at HL ⊢
 clear hl
 go_enter Tryz.func115,Tryz.ntmps115
 go_wp2_with fail
 refine HL.out.mono ?_
 rintro e w1 ⟨A,c,rfl,hc,_,HB⟩
 obtain ⟨n,hn⟩:∃ n,n=l.length:=⟨_,rfl⟩
 have HN:=Lib.hid hn
 rw [← hn] at hc ⊢
 clear hn
 go_wp2_with fail
 go_ret
 exact ⟨by rw [← HN.out];simp,HB.out⟩
end Wo
end Go.Proofs.YtbnpgakmhhfjkaaGreatDoor
namespace Go.Proofs.YtbnpgakmhhfjkaaGreatDoor
open Go.RowKit
namespace Sh
def word4 (a b c d:UInt8):Int:=bits .or .u32 (bits .or .u32 (bits .or .u32 (a.toNat*16777216) (b.toNat*65536)) (c.toNat*256)) d.toNat
def wordAt (l:List UInt8) (i:Nat):Int:=word4 (l.getD (4*i) 0) (l.getD (4*i+1) 0) (l.getD (4*i+2) 0) (l.getD (4*i+3) 0)
def wordsOf (l:List UInt8):List Int:=(List.range 16).map (wordAt (l++[128]))
theorem wordsOf_length (l:List UInt8):(wordsOf l).length=16:=by simp [wordsOf]
theorem bits_or_bv (x y:Int):bits .or .u32 x y=((BitVec.ofInt 32 x ||| BitVec.ofInt 32 y).toNat:Int):=by
 show IntKind.u32.wrap ((BitVec.ofInt 32 x ||| BitVec.ofInt 32 y).toNat:Int)=_
 rw [IntKind.wrap_u32']
 have:=(BitVec.ofInt 32 x ||| BitVec.ofInt 32 y).isLt
 omega
theorem ofInt_toNat (b:BitVec 32):BitVec.ofInt 32 (b.toNat:Int)=b:=by
 rw [BitVec.ofInt_natCast,BitVec.ofNat_toNat];simp
theorem bits_or_comm (x y:Int):bits .or .u32 x y=bits .or .u32 y x:=by rw [bits_or_bv,bits_or_bv,BitVec.or_comm]
theorem bits_or_assoc (x y z:Int):bits .or .u32 (bits .or .u32 x y) z=bits .or .u32 x (bits .or .u32 y z):=by
 rw [bits_or_bv,bits_or_bv x y,ofInt_toNat,bits_or_bv x,bits_or_bv y z,ofInt_toNat,BitVec.or_assoc]
theorem bits_or_zero (x:Int) (h0:0≤x) (h1:x<4294967296):bits .or .u32 x 0=x:=by
 rw [bits_or_bv]
 obtain ⟨n,rfl⟩:=Int.eq_ofNat_of_zero_le h0
 have:BitVec.ofInt 32 (0:Int)=0#32:=by decide
 rw [this,BitVec.or_zero,BitVec.ofInt_natCast,BitVec.toNat_ofNat]
 omega
theorem bits_or_range (x y:Int):0≤bits .or .u32 x y∧bits .or .u32 x y<4294967296:=by
 rw [bits_or_bv]
 have:=(BitVec.ofInt 32 x ||| BitVec.ofInt 32 y).isLt
 omega
theorem last0:wordAt ([]++[128]) 0=2147483648:=by decide
theorem last1 (a:UInt8):bits .or .u32 8388608 (a.toNat*16777216)=wordAt ([a]++[128]) 0:=by
 show _=word4 a 128 0 0
 unfold word4
 have h:=bits_or_range ((a.toNat:Int)*16777216) ((128:UInt8).toNat*65536)
 rw [show ((0:UInt8).toNat:Int)*256=0 from rfl,show (((0:UInt8).toNat:Nat):Int)=0 from rfl,bits_or_zero _ h.1 h.2,bits_or_zero _ h.1 h.2,bits_or_comm]
 rfl
theorem last2 (a b:UInt8):bits .or .u32 (bits .or .u32 32768 (b.toNat*65536)) (a.toNat*16777216)=wordAt ([a,b]++[128]) 0:=by
 show _=word4 a b 128 0
 unfold word4
 have h:=bits_or_range (bits .or .u32 ((a.toNat:Int)*16777216) (b.toNat*65536)) ((128:UInt8).toNat*256)
 rw [show (((0:UInt8).toNat:Nat):Int)=0 from rfl,bits_or_zero _ h.1 h.2,show ((128:UInt8).toNat:Int)*256=32768 from rfl]
 rw [bits_or_comm _ ((a.toNat:Int)*16777216),bits_or_comm 32768,bits_or_assoc]
theorem last3 (a b c:UInt8):bits .or .u32 (bits .or .u32 (bits .or .u32 128 (c.toNat*256)) (b.toNat*65536)) (a.toNat*16777216)=wordAt ([a,b,c]++[128]) 0:=by
 show _=word4 a b c 128
 unfold word4
 rw [show (((128:UInt8).toNat:Nat):Int)=128 from rfl]
 rw [bits_or_comm _ ((a.toNat:Int)*16777216),bits_or_comm (bits .or .u32 128 _) ((b.toNat:Int)*65536),bits_or_comm 128]
 rw [bits_or_assoc,bits_or_assoc]
theorem wordAt_append (l r:List UInt8) (i:Nat) (h:4*i+4≤l.length):wordAt (l++r) i=wordAt l i:=by
 have e:∀ k,k<l.length→(l++r).getD k 0=l.getD k 0:=by
  intro k hk
  simp [List.getD,List.getElem?_append_left hk]
 unfold wordAt
 rw [e _ (by omega),e _ (by omega),e _ (by omega),e _ (by omega)]
theorem wordAt_drop (l:List UInt8) (i j:Nat):wordAt (l.drop (4*i)) j=wordAt l (i+j):=by
 have e:∀ k,(l.drop (4*i)).getD k 0=l.getD (4*i+k) 0:=by
  intro k
  simp [List.getD,List.getElem?_drop]
 unfold wordAt
 rw [e,e,e,e]
 congr 2 <;> omega
theorem wordAt_far (l:List UInt8) (i:Nat) (h:l.length≤4*i):wordAt l i=0:=by
 have e:∀ k,l.length≤k→l.getD k 0=0:=by
  intro k hk
  simp [List.getD,List.getElem?_eq_none hk]
 unfold wordAt
 rw [e _ (by omega),e _ (by omega),e _ (by omega),e _ (by omega)]
 decide
end Sh
end Go.Proofs.YtbnpgakmhhfjkaaGreatDoor
namespace Go.Proofs.YtbnpgakmhhfjkaaGreatDoor
open Go.RowKit Sh
set_option maxHeartbeats 1000000 in
set_option maxRecDepth 100000 in
theorem lastWord_any (l:List UInt8) (hl:l.length<4) (A:Option Addr) (cap:Nat) (w:World) (hr:Rd w A l) :
    Calls Tryz.prog 203 #[.slice A l.length cap] w fun e w'=>e=.returned (.int .u32 (wordAt (l++[128]) 0))∧w=w':=by
 match l,hl with
 | [],_ =>
   have HD:=Lib.hid last0
   show Calls Tryz.prog 203 #[.slice A 0 cap] w _
   go_enter Tryz.func203,Tryz.ntmps203
   go_wp2
   go_ret
   exact ⟨ret_num HD.out,rfl⟩
 | [a],_ =>
   have HD:=Lib.hid (last1 a)
   have ha:=a.toNat_lt
   obtain ⟨b,off,rfl,_,hc⟩:=hr (by simp)
   have c0:=hc 0 a rfl
   clear hc hr
   rw [Nat.add_zero] at c0
   show Calls Tryz.prog 203 #[.slice (some ⟨b,off,none⟩) 1 cap] w _
   go_enter Tryz.func203,Tryz.ntmps203
   go_wp2
   go_ret
   exact ⟨ret_num HD.out.symm,rfl⟩
 | [a,b'],_ =>
   have HD:=Lib.hid (last2 a b')
   have ha:=a.toNat_lt
   have hb:=b'.toNat_lt
   obtain ⟨b,off,rfl,_,hc⟩:=hr (by simp)
   have c0:=hc 0 a rfl
   have c1:=hc 1 b' rfl
   clear hc hr
   rw [Nat.add_zero] at c0
   show Calls Tryz.prog 203 #[.slice (some ⟨b,off,none⟩) 2 cap] w _
   go_enter Tryz.func203,Tryz.ntmps203
   go_wp2
   go_ret
   exact ⟨ret_num HD.out.symm,rfl⟩
 | [a,b',c'],_ =>
   have HD:=Lib.hid (last3 a b' c')
   have ha:=a.toNat_lt
   have hb:=b'.toNat_lt
   have hc':=c'.toNat_lt
   obtain ⟨b,off,rfl,_,hc⟩:=hr (by simp)
   have c0:=hc 0 a rfl
   have c1:=hc 1 b' rfl
   have c2:=hc 2 c' rfl
   clear hc hr
   rw [Nat.add_zero] at c0
   show Calls Tryz.prog 203 #[.slice (some ⟨b,off,none⟩) 3 cap] w _
   go_enter Tryz.func203,Tryz.ntmps203
   go_wp2
   go_ret
   exact ⟨ret_num HD.out.symm,rfl⟩
end Go.Proofs.YtbnpgakmhhfjkaaGreatDoor
namespace Go.Proofs.YtbnpgakmhhfjkaaGreatDoor
open Go.RowKit Sh
def WordsAt (l:List UInt8) (B:Nat) (w0 wr:World) (i:Nat):Prop :=
 i≤16∧Blk wr (B+1) 229 (words32 ((List.range i).map (wordAt (l++[128])))++noughts (16-i))∧Blk wr B 229 (noughts 16)∧Below B w0 wr
theorem WordsAt.step {l:List UInt8} {B:Nat} {w0 wr:World} {i:Nat} (h:WordsAt l B w0 wr i) (hi:i<16) (x:Int) (hx:x=wordAt (l++[128]) i):WordsAt l B w0 (wr.setCell ⟨B+1,i,none⟩ (.int .u32 x)) (i+1):=by
 obtain ⟨h0,h1,h2,h3⟩:=h
 refine ⟨by omega,?_,h2.far (by simp) _,h3.setCell (by simp) _⟩
 have h4:=h1.set_ i (.int .u32 x)
 have hl:(words32 ((List.range i).map (wordAt (l++[128])))).length=i:=by simp
 have e3:noughts (16-i)=.int .u32 0 :: noughts (16-(i+1)):=by
  have:16-i=(16-(i+1))+1:=by omega
  rw [this];rfl
 rw [e3] at h4
 have e4:(words32 ((List.range i).map (wordAt (l++[128])))++Value.int IntKind.u32 0 :: noughts (16-(i+1))).set i (.int .u32 x)=words32 ((List.range (i+1)).map (wordAt (l++[128])))++noughts (16-(i+1)):=by
  rw [List.set_append_right _ _ (by omega),hl,Nat.sub_self,List.set_cons_zero,List.range_succ,List.map_append,words32_append,hx]
  simp [words32]
 rw [e4] at h4
 exact h4
theorem WordsAt.drew {l:List UInt8} {B:Nat} {w0 wr:World} {i:Nat} (h:WordsAt l B w0 wr i):WordsAt l B w0 wr.drew i:=⟨h.1,h.2.1,h.2.2.1,h.2.2.2.drew⟩
theorem WordsAt.room {l:List UInt8} {B:Nat} {w0 wr:World} {i:Nat} (h:WordsAt l B w0 wr i) (hi:i<16):wr.cell? ⟨B+1,i,none⟩=some (.int .u32 0):=by
 obtain ⟨h0,h1,_⟩:=h
 have hl:(words32 ((List.range i).map (wordAt (l++[128])))).length=i:=by simp
 rw [h1.cell,List.getElem?_append_right (by omega),hl,Nat.sub_self]
 unfold noughts
 rw [words32_get _ _ (by simp;omega)]
 obtain ⟨m,hm⟩:∃ m,16-i=m+1:=⟨15-i,by omega⟩
 rw [hm];rfl
theorem WordsAt.full {l:List UInt8} {B:Nat} {w0 wr:World} {i:Nat} (h:WordsAt l B w0 wr i) (hl:l.length+1≤4*i∨i=16):Blk wr (B+1) 229 (words32 (wordsOf l)):=by
 obtain ⟨h0,h1,_⟩:=h
 have e:words32 (wordsOf l)=words32 ((List.range i).map (wordAt (l++[128])))++noughts (16-i):=by
  unfold wordsOf
  rw [show (16:Nat)=i+(16-i) by omega,List.range_add,List.map_append,words32_append,Nat.add_sub_cancel_left]
  congr 1
  unfold noughts
  congr 1
  apply List.ext_getElem
  ·simp
  ·intro k hk1 hk2
   simp only [List.length_map,List.length_range] at hk1
   simp only [List.getElem_map,List.getElem_range,List.getElem_replicate]
   exact wordAt_far _ _ (by simp;omega)
 rw [e];exact h1
theorem words_facts (l:List UInt8):Hid ((Tryz.prog.info? 229).map (·.size)=some (words32 (wordsOf l)).toArray.size)∧Hid ((words32 (wordsOf l)).toArray.all (·.oneCell')=true)∧Hid ((noughts 16).toArray.size=(words32 (wordsOf l)).toArray.size):=by
 have hsz:(words32 (wordsOf l)).toArray.size=16:=by simp [wordsOf_length]
 refine ⟨?_,?_,?_⟩
 ·show _=_
  rw [hsz];kernel_rfl
 ·show _=_
  rw [Array.all_eq_true]
  intro j hj
  exact words32_one (wordsOf l) _ (by simp)
 ·show _=_
  rw [hsz];rfl
def lenOf:Value→Nat|.slice _ n _=>n|_=>0
set_option maxHeartbeats 1000000 in
set_option maxRecDepth 100000 in
theorem words_any (l:List UInt8) (hl:l.length≤64) (A:Option Addr) (cap:Nat) (hcap:l.length≤cap) (w:World) (hr:Rd w A l) :
    Calls Tryz.prog 185 #[.slice A l.length cap] w fun e w'=>e=.returned (.agg (words32 (wordsOf l)).toArray)∧Below w.heap.size w w':=by
 have HR:Hid (Rd w A l):=hr
 clear hr
 go_enter Tryz.func185,Tryz.ntmps185
 go_upto_region 2 with (fail)
 refine wp_world (fun W=>Hid (WordsAt l w.heap.size w W 0)) ?_ ?_
 ·have e1:=Blk.new w 229 (noughts 16)
  have e2:=Blk.new (w.alloc (.cells (noughts 16).toArray 229)) 229 (noughts 16)
  rw [World.size_alloc] at e2
  have hb:Below w.heap.size w ((w.alloc (.cells (noughts 16).toArray 229)).alloc (.cells (noughts 16).toArray 229)):=((Below.refl _ _).alloc (Nat.le_refl _) _).alloc (by simp) _
  exact ⟨by omega,e2,e1.alloc _,hb⟩
 intro W HW
 go_wp2_with fail
 go_loopw [0,4] (fun t0 t4 wr=>∃ (i:Nat) (A':Option Addr) (r:List UInt8) (c:Nat),t4=.int .i64 i∧t0=.slice A' r.length c∧r.length≤c∧Hid (Rd w A' r)∧Hid (r=l.drop (4*i))∧4*i+r.length≤64∧Hid (WordsAt l w.heap.size w wr i)∧Hid (4*i+r.length=l.length)) (fun t0 _ _=>lenOf t0)
 case atStart=>exact ⟨0,A,l,cap,rfl,rfl,hcap,HR,rfl,by omega,HW,show _=_ by omega⟩
 case round =>
  obtain ⟨i,A',r,c,rfl,rfl,hc,HRD,HE,h64,HW,HL⟩:=hrel
  by_cases hlt:4≤r.length
  ·obtain ⟨b,off,rfl,hb,hcell⟩:=(HRD.out.below HW.out.2.2.2).at_ (by omega)
   have c0:=hcell 0 (by omega)
   have c1:=hcell 1 (by omega)
   have c2:=hcell 2 (by omega)
   have c3:=hcell 3 (by omega)
   rw [Nat.add_zero] at c0
   have HX:Hid (word4 (r.getD 0 0) (r.getD 1 0) (r.getD 2 0) (r.getD 3 0)=wordAt (l++[128]) i):=by
    show _=_
    have e:wordAt r 0=wordAt (l++[128]) i:=by
     rw [HE.out,wordAt_drop,wordAt_append _ _ _ (by have:=HL.out;omega),Nat.add_zero]
    exact e
   have u0:=(r.getD 0 0).toNat_lt
   have u1:=(r.getD 1 0).toNat_lt
   have u2:=(r.getD 2 0).toNat_lt
   have u3:=(r.getD 3 0).toNat_lt
   generalize r.getD 0 0=x0 at *
   generalize r.getD 1 0=x1 at *
   generalize r.getD 2 0=x2 at *
   generalize r.getD 3 0=x3 at *
   have cr:=HW.out.room (by omega)
   have cf:=HW.out.2.1.frozen i
   have HN:Hid (r.drop 4=l.drop (4*(i+1))):=by
    show _=_
    rw [HE.out,List.drop_drop]
    congr 1
   have hln:r.length-4=(r.drop 4).length:=by simp
   have HLN:=Lib.hid hln
   have HRN:Hid (Rd w (if c=4 then some ⟨b,off,none⟩ else (some (⟨b,off,none⟩:Addr)).map (·.add 4)) (r.drop 4)):=HRD.out.cut 4 c hc
   have HL2:Hid (4*(i+1)+(r.drop 4).length=l.length):=by show _=_;have:=HL.out;rw [← hln];omega
   have HWN:Hid (WordsAt l w.heap.size w (wr.setCell ⟨w.heap.size+1,i,none⟩ (.int .u32 (word4 x0 x1 x2 x3))) (i+1)):=HW.out.step (by omega) _ HX.out
   clear hcell hln
   by_cases hc4:c=4
   ·subst hc4
    have hr4:r.length=4:=by omega
    have HRN3:Hid (Rd w (some ⟨b,off,none⟩) (r.drop 4)):=by have:=HRN.out;rw [if_pos rfl] at this;exact this
    have H0:Hid ((r.drop 4).length=0):=by show _=_;simp;omega
    go_wp2_with fail
    go_region
    all_goals
     go_wp2_with fail
     go_roundw
     case rel=>exact ⟨i+1,_,r.drop 4,0,by go_num,by rw [H0.out],by rw [H0.out];omega,HRN3,HN,by rw [H0.out];omega,HWN.out.drew,HL2⟩
     case measure=>simp [lenOf];omega
   ·have HRN2:Hid (Rd w (some ⟨b,off+4,none⟩) (r.drop 4)):=by
     have:=HRN.out
     rw [if_neg hc4] at this
     simp only [Option.map_some,add_plain] at this
     exact this
    go_wp2_with fail
    go_region
    all_goals
     go_wp2_with fail
     go_roundw
     case rel=>exact ⟨i+1,_,r.drop 4,c-4,by go_num,by rw [HLN.out],by rw [← HLN.out];omega,HRN2,HN,by rw [← HLN.out];omega,HWN.out.drew,HL2⟩
     case measure=>simp [lenOf];omega
  ·go_upto_region 7 with (fail)
   have hB:Hid (Below w.heap.size w wr):=HW.out.2.2.2
   obtain ⟨HI,HA,HZ⟩:=words_facts l
   by_cases hi:i<16
   ·have HX:Hid (wordAt (r++[128]) 0=wordAt (l++[128]) i):=by
     show _=_
     have e:r++[128]=(l++[128]).drop (4*i):=by
      rw [List.drop_append_of_le_length (by have:=HL.out;omega),HE.out]
     rw [e,wordAt_drop,Nat.add_zero]
    have cr:=HW.out.room hi
    have cf:=HW.out.2.1.frozen i
    have HN:=HW.out.step hi _ HX.out
    have HB2:Hid (Blk (wr.setCell ⟨w.heap.size+1,i,none⟩ (.int .u32 (wordAt (r++[128]) 0))) (w.heap.size+1) 229 (words32 (wordsOf l))):=HN.full (.inl (by have:=HL.out;omega))
    have HR2:Hid (Blk (wr.setCell ⟨w.heap.size+1,i,none⟩ (.int .u32 (wordAt (r++[128]) 0))) w.heap.size 229 (noughts 16)):=HN.2.2.1
    have HW2:Hid (Below w.heap.size w (wr.setCell ⟨w.heap.size+1,i,none⟩ (.int .u32 (wordAt (r++[128]) 0)))):=HN.2.2.2
    clear HN
    go_wp2_with fail
    refine (lastWord_any r (by omega) _ _ _ (HRD.out.below hB.out)).mono ?_
    rintro e w' ⟨rfl,rfl⟩
    go_wp2_with (first
     | (refine wpList_load_row rfl 229 (.tmp 3) rfl (w.heap.size+1) rfl 229 (words32 (wordsOf l)).toArray (0,0) _ HB2.out Tryz.underlying229 rfl HI.out ?_)
     | (refine wpList_store_row rfl 229 (.tmp 2) (.tmp 42) rfl w.heap.size (words32 (wordsOf l)).toArray rfl rfl 229 (noughts 16).toArray HR2.out HI.out HZ.out HA.out ?_))
    exact bodyPost_ret (v:=.agg (words32 (wordsOf l)).toArray) (results_cell_row rfl _ _ w.heap.size 229 (words32 (wordsOf l)).toArray (0,0) _ rfl (Blk.row HR2.out _) Tryz.underlying229 rfl HI.out) rfl ⟨rfl,below_setRow HW2.out (by omega) _⟩
   ·have HB2:Hid (Blk wr (w.heap.size+1) 229 (words32 (wordsOf l))):=HW.out.full (.inr (by have:=HW.out.1;omega))
    have HR2:Hid (Blk wr w.heap.size 229 (noughts 16)):=HW.out.2.2.1
    go_wp2_with (first
     | (refine wpList_load_row rfl 229 (.tmp 3) rfl (w.heap.size+1) rfl 229 (words32 (wordsOf l)).toArray (0,0) _ HB2.out Tryz.underlying229 rfl HI.out ?_)
     | (refine wpList_store_row rfl 229 (.tmp 2) (.tmp 42) rfl w.heap.size (words32 (wordsOf l)).toArray rfl rfl 229 (noughts 16).toArray HR2.out HI.out HZ.out HA.out ?_))
    exact bodyPost_ret (v:=.agg (words32 (wordsOf l)).toArray) (results_cell_row rfl _ _ w.heap.size 229 (words32 (wordsOf l)).toArray (0,0) _ rfl (Blk.row HR2.out _) Tryz.underlying229 rfl HI.out) rfl ⟨rfl,below_setRow hB.out (by omega) _⟩
end Go.Proofs.YtbnpgakmhhfjkaaGreatDoor
namespace Go.Proofs.YtbnpgakmhhfjkaaGreatDoor
open Go.RowKit Sh
namespace Sh
def byteOf (x:Int):UInt8:=UInt8.ofNat (x % 256).toNat
theorem byteOf_toNat (x:Int):((byteOf x).toNat:Int)=x % 256:=by
 unfold byteOf
 rw [UInt8.toNat_ofNat']
 omega
def bytes4 (x:Int):List UInt8:=[byteOf (x / 16777216),byteOf (x / 65536),byteOf (x / 256),byteOf x]
def bytesOf (h:List Int):List UInt8:=h.flatMap bytes4
theorem bytesOf_length (h:List Int):(bytesOf h).length=4*h.length:=by
 induction h with
 | nil=>rfl
 | cons x h ih=>show ([_,_,_,_]++bytesOf h).length=_;rw [List.length_append,ih,List.length_cons];simp;omega
theorem bytesOf_take (h:List Int) (k:Nat) (hk:k<h.length):bytesOf (h.take (k+1))=bytesOf (h.take k)++bytes4 (h.getD k 0):=by
 unfold bytesOf
 rw [List.take_succ_eq_append_getElem hk,List.flatMap_append]
 congr 1
 simp [List.getElem?_eq_getElem hk]
theorem cells4 (x:Int):Lib.byteCells (bytes4 x)=[.int .u8 (x / 16777216 % 256),.int .u8 (x / 65536 % 256),.int .u8 (x / 256 % 256),.int .u8 (x % 256)]:=by
 simp [Lib.byteCells,bytes4,byteOf_toNat]
end Sh
def BytesAt (h:List Int) (tail:List Value) (B T:Nat) (w0:World) (v:Value) (wr:World) (k:Nat):Prop :=
 wr.ownsRow w0.heap.size 5 1 v (4*k) (Lib.byteCells (bytesOf (h.take k)))∧Blk wr B T (words32 h++tail)∧Below w0.heap.size w0 wr
set_option maxHeartbeats 1000000 in
set_option maxRecDepth 100000 in
theorem shBytes_any (h:List Int) (hh:h.length=8) (tail:List Value) (B T:Nat) (w:World) (hB:Blk w B T (words32 h++tail)) :
    Calls Tryz.prog 186 #[.pointer (some ⟨B,0,none⟩)] w fun e w'=>∃ v,e=.returned v∧w'.ownsRow w.heap.size 5 1 v 32 (Lib.byteCells (bytesOf h))∧Below w.heap.size w w':=by
 obtain ⟨i0,hi,hz0,hz1,hz2⟩:=info_parts Tryz.infoU8
 have HI0:=Lib.hid hi
 have HZ0:=Lib.hid hz0
 have HZ1:=Lib.hid hz1
 have HZ2:=Lib.hid hz2
 have HH:=Lib.hid hh
 have HBK:Hid (Blk w B T (words32 h++tail)):=hB
 have hlt:=hB.lt
 clear hi hz0 hz1 hz2 hh hB
 go_enter Tryz.func186,Tryz.ntmps186
 go_upto_region 2 with (first
  | (at_make;refine wpList_make_own _ rfl _ _ 23 rfl w.heap.size 5 i0 (.int .u8 0) 1 Tryz.underlying23 HI0.out HZ0.out HZ1.out .i64 .i64 32 32 rfl rfl rfl (by rw [HZ2.out];omega) (by unfold maxLen;omega) (Nat.le_refl _) ?_;intro w0 hown0 hgrow0))
 have HS:Hid (BytesAt h tail B T w (.slice (some ⟨w.heap.size,0,none⟩) 0 32) w0 0) :=
  ⟨by simpa [bytesOf,Lib.byteCells] using hown0,HBK.out.grown hgrow0 (by simp),(Below.refl _ _).grown hgrow0 (Nat.le_refl _) (fun k hk=>by cases hk)⟩
 clear hown0 hgrow0 HBK
 go_wp2_with fail
 go_loopw [3,8] (fun t3 t8 wr=>∃ k:Nat,k≤8∧t8=.int .i64 k∧Hid (BytesAt h tail B T w t3 wr k)) (fun _ t8 _=>8-(intOf t8).toNat)
 case atStart=>exact ⟨0,by omega,rfl,HS⟩
 case round =>
  obtain ⟨k,hk,rfl,HK⟩:=hrel
  by_cases hlt8:k<8
  ·have c0:wr.cell? ⟨B,k,none⟩=some (.int .u32 (h.getD k 0)):=by
    have hl:k<h.length:=by rw [HH.out];exact hlt8
    rw [HK.out.2.1.cell,List.getElem?_append_left (by simpa using hl),words32_get _ _ hl]
   have HC:Hid (Lib.byteCells (bytesOf (h.take (k+1)))=Lib.byteCells (bytesOf (h.take k))++[.int .u8 (h.getD k 0 / 16777216 % 256),.int .u8 (h.getD k 0 / 65536 % 256),.int .u8 (h.getD k 0 / 256 % 256),.int .u8 (h.getD k 0 % 256)]):=by
    show _=_
    rw [bytesOf_take _ _ (by rw [HH.out];exact hlt8),Lib.byteCells_append,cells4]
   generalize h.getD k 0=x at *
   have HOWN:=Lib.hid HK.out.1
   have hsz:w.heap.size≤wr.heap.size:=HK.out.2.2.size
   go_wp2_with (first
    | (at_builtin;refine wpList_append_own _ rfl _ _ 23 rfl w.heap.size 5 i0 (.int .u8 0) 1 1 Tryz.underlying23 HI0.out HZ0.out HZ1.out HZ2.out rfl (by decide) _ _ _ rfl (HOWN.out.alloc _) ⟨wr.heap.size,0,none⟩ 4 4 [.int .u8 (x / 16777216 % 256),.int .u8 (x / 65536 % 256),.int .u8 (x / 256 % 256),.int .u8 (x % 256)] rfl rfl ?c1 ?c2 ?c3 ?c4 ?c5 ?_))
   case c1 =>
    intro j u hu
    rw [add_plain,Nat.zero_add,World.cell?_alloc_at _ _ _ _ rfl]
    simpa using hu
   case c2 =>
    intro u hu
    simp only [List.mem_cons,List.not_mem_nil,or_false] at hu
    rcases hu with rfl|rfl|rfl|rfl <;> rfl
   case c3=>unfold maxLen;omega
   case c4=>omega
   case c5=>rw [World.size_alloc];omega
   intro v' w1 hown' hgrow _
   have HN:Hid (BytesAt h tail B T w v' w1 (k+1)):=by
    refine ⟨?_,?_,?_⟩
    ·rw [HC.out];exact hown'
    ·refine (HK.out.2.1.alloc _).grown hgrow ?_
     intro e
     have:=HOWN.out.ownBlock_ge _ e.symm
     omega
    ·refine ((HK.out.2.2.alloc hsz _).grown hgrow (by rw [World.size_alloc];omega) (fun g hg=>HOWN.out.ownBlock_ge g hg))
   clear hown' hgrow
   go_wp2_with fail
   go_roundw
   case rel=>exact ⟨k+1,by omega,by go_num,HN⟩
   case measure=>simp [intOf];omega
  ·obtain rfl:k=8:=by omega
   have HF:Hid (wr.ownsRow w.heap.size 5 1 u3 32 (Lib.byteCells (bytesOf h))∧Below w.heap.size w wr):=by
    show _∧_
    have h1:=HK.out.1
    rw [List.take_of_length_le (by rw [HH.out];omega)] at h1
    exact ⟨h1,HK.out.2.2⟩
   clear HK
   go_wp2_with fail
   go_ret
   exact ⟨_,rfl,HF.out⟩
end Go.Proofs.YtbnpgakmhhfjkaaGreatDoor
namespace Go.Proofs.YtbnpgakmhhfjkaaGreatDoor
open Go.RowKit Sh
namespace Sh
def hashTo (l:List UInt8):Nat→List Int
 | 0=>hash0
 | k+1=>mix (hashTo l k) (wordsOf ((l.drop (64*k)).take 64))
theorem hashTo_length (l:List UInt8) (k:Nat):(hashTo l k).length=8:=by
 induction k with
 | zero=>rfl
 | succ k ih=>exact mix_length _ _ ih
theorem hashTo_append (l r:List UInt8) (k:Nat) (h:64*k≤l.length):hashTo (l++r) k=hashTo l k:=by
 induction k with
 | zero=>rfl
 | succ k ih =>
   rw [hashTo,hashTo,ih (by omega)]
   congr 2
   rw [List.drop_append_of_le_length (by omega),List.take_append_of_le_length (by rw [List.length_drop];omega)]
def rest (l:List UInt8):List UInt8:=l.drop (64*(l.length / 64))
theorem rest_length (l:List UInt8):(rest l).length=l.length % 64:=by rw [rest,List.length_drop];omega
def bitsHi (n:Nat):Int:=(n:Int)*8 / 4294967296 % 4294967296
def bitsLo (n:Nat):Int:=(n:Int)*8 % 4294967296
def ended (b:List Int) (n:Nat):List Int:=(b.set 14 (bitsHi n)).set 15 (bitsLo n)
def sumW (l:List UInt8):List Int :=
 if 56≤(rest l).length then mix (mix (hashTo l (l.length / 64)) (wordsOf (rest l))) (ended (List.replicate 16 0) l.length)
 else mix (hashTo l (l.length / 64)) (ended (wordsOf (rest l)) l.length)
def sum (l:List UInt8):List UInt8:=bytesOf (sumW l)
theorem sumW_length (l:List UInt8):(sumW l).length=8:=by
 unfold sumW
 split
 ·exact mix_length _ _ (mix_length _ _ (hashTo_length _ _))
 ·exact mix_length _ _ (hashTo_length _ _)
theorem sum_length (l:List UInt8):(sum l).length=32:=by rw [sum,bytesOf_length,sumW_length]
end Sh
def Cells (h:List Int) (b:List UInt8) (held all:Nat):List Value:=words32 h++(Lib.byteCells b++[.int .i64 held,.int .i64 all])
def St (w:World) (B:Nat) (l:List UInt8):Prop :=
 ∃ junk:List UInt8,(rest l).length+junk.length=64∧Blk w B 227 (Cells (hashTo l (l.length / 64)) (rest l++junk) (l.length % 64) l.length)
theorem St.below {w w':World} {B:Nat} {l:List UInt8} (h:St w B l) (hb:Below w.heap.size w w'):St w' B l:=by
 obtain ⟨junk,hj,hB⟩:=h
 exact ⟨junk,hj,hB.below hb hB.lt⟩
theorem St.keeps {w w':World} {B g:Nat} {l:List UInt8} (h:St w B l) (hb:Keeps w w' g) (hne:B≠g):St w' B l:=by
 obtain ⟨junk,hj,hB⟩:=h
 exact ⟨junk,hj,hB.grown hb (by simpa using hne)⟩
theorem St.lt {w:World} {B:Nat} {l:List UInt8} (h:St w B l):B<w.heap.size:=by
 obtain ⟨junk,hj,hB⟩:=h
 exact hB.lt
section
variable {h:List Int} {b:List UInt8} {hd al:Nat} {w:World} {B T:Nat}
theorem Cells.len (hh:h.length=8) (hb:b.length=64):(Cells h b hd al).length=74:=by simp [Cells,hh,hb,Lib.byteCells_length]
theorem Cells.byte (hB:Blk w B T (Cells h b hd al)) (hh:h.length=8) (i:Nat) (hi:i<b.length):w.cell? ⟨B,8+i,none⟩=some (.int .u8 (b.getD i 0).toNat):=by
 rw [hB.cell,Cells,List.getElem?_append_right (by simp [hh]),words32_length,hh,Nat.add_sub_cancel_left,List.getElem?_append_left (by simpa [Lib.byteCells_length] using hi)]
 simp [Lib.byteCells,List.getElem?_eq_getElem hi]
theorem Cells.held (hB:Blk w B T (Cells h b hd al)) (hh:h.length=8) (hb:b.length=64):w.cell? ⟨B,72,none⟩=some (.int .i64 hd):=by
 rw [hB.cell,Cells,List.getElem?_append_right (by simp [hh]),words32_length,hh,List.getElem?_append_right (by simp [Lib.byteCells_length,hb]),Lib.byteCells_length,hb]
 rfl
theorem Cells.all (hB:Blk w B T (Cells h b hd al)) (hh:h.length=8) (hb:b.length=64):w.cell? ⟨B,73,none⟩=some (.int .i64 al):=by
 rw [hB.cell,Cells,List.getElem?_append_right (by simp [hh]),words32_length,hh,List.getElem?_append_right (by simp [Lib.byteCells_length,hb]),Lib.byteCells_length,hb]
 rfl
theorem Cells.setHeld (hB:Blk w B T (Cells h b hd al)) (hh:h.length=8) (hb:b.length=64) (x:Nat):Blk (w.setCell ⟨B,72,none⟩ (.int .i64 x)) B T (Cells h b x al):=by
 have:=hB.set_ 72 (.int .i64 x)
 rw [Cells,List.set_append_right _ _ (by simp [hh]),words32_length,hh,List.set_append_right _ _ (by simp [Lib.byteCells_length,hb]),Lib.byteCells_length,hb] at this
 exact this
theorem Cells.setAll (hB:Blk w B T (Cells h b hd al)) (hh:h.length=8) (hb:b.length=64) (x:Nat):Blk (w.setCell ⟨B,73,none⟩ (.int .i64 x)) B T (Cells h b hd x):=by
 have:=hB.set_ 73 (.int .i64 x)
 rw [Cells,List.set_append_right _ _ (by simp [hh]),words32_length,hh,List.set_append_right _ _ (by simp [Lib.byteCells_length,hb]),Lib.byteCells_length,hb] at this
 exact this
theorem Cells.rd (hB:Blk w B T (Cells h b hd al)) (hh:h.length=8) (n:Nat):Rd w (some ⟨B,8,none⟩) (b.take n):=by
 intro hl
 refine ⟨B,8,rfl,hB.lt,fun j x hx=>?_⟩
 rw [List.getElem?_take] at hx
 split at hx
 ·obtain ⟨hj,rfl⟩:=List.getElem?_eq_some_iff.1 hx
  rw [Cells.byte hB hh j hj]
  simp [List.getElem?_eq_getElem hj]
 ·cases hx
theorem Cells.splice (hh:h.length=8) (b x:List UInt8) (o:Nat) (hb:o+x.length≤b.length):Go.splice (Cells h b hd al) (8+o) (Lib.byteCells x)=Cells h (b.take o++(x++b.drop (o+x.length))) hd al:=by
 unfold Go.splice Cells
 rw [Lib.byteCells_length,List.take_append,List.drop_append]
 have e1:(words32 h).length=8:=by simp [hh]
 rw [List.take_of_length_le (by omega),List.drop_of_length_le (by omega:(words32 h).length≤8+o+x.length),e1,Nat.add_sub_cancel_left,List.nil_append]
 have e2:8+o+x.length-8=o+x.length:=by omega
 rw [e2,List.take_append_of_le_length (by rw [Lib.byteCells_length];omega),List.drop_append_of_le_length (by rw [Lib.byteCells_length];omega)]
 simp [Lib.byteCells,List.map_take,List.map_drop]
end
set_option maxRecDepth 100000 in
theorem begun_any (w:World):Calls Tryz.prog 183 #[] w fun e w'=>e=.returned (.agg #[.int .u32 1779033703,.int .u32 3144134277,.int .u32 1013904242,.int .u32 2773480762,.int .u32 1359893119,.int .u32 2600822924,.int .u32 528734635,.int .u32 1541459225])∧Below w.heap.size w w':=by
 go_enter Tryz.func183,Tryz.ntmps183
 go_wp2
 exact bodyPost_ret (v:=.agg (words32 hash0).toArray) (results_cell_row rfl _ _ w.heap.size 223 (words32 hash0).toArray (0,0) _ rfl (heap_alloc_new w _) Tryz.underlying223 rfl (by kernel_rfl)) rfl ⟨rfl,(Below.refl _ _).alloc (Nat.le_refl _) _⟩
theorem Tryz.zeroStream (w:World):(zeroValue 227).run Tryz.prog w=.ok (.agg #[.int .u32 0,.int .u32 0,.int .u32 0,.int .u32 0,.int .u32 0,.int .u32 0,.int .u32 0,.int .u32 0,.int .u8 0,.int .u8 0,.int .u8 0,.int .u8 0,.int .u8 0,.int .u8 0,.int .u8 0,.int .u8 0,.int .u8 0,.int .u8 0,.int .u8 0,.int .u8 0,.int .u8 0,.int .u8 0,.int .u8 0,.int .u8 0,.int .u8 0,.int .u8 0,.int .u8 0,.int .u8 0,.int .u8 0,.int .u8 0,.int .u8 0,.int .u8 0,.int .u8 0,.int .u8 0,.int .u8 0,.int .u8 0,.int .u8 0,.int .u8 0,.int .u8 0,.int .u8 0,.int .u8 0,.int .u8 0,.int .u8 0,.int .u8 0,.int .u8 0,.int .u8 0,.int .u8 0,.int .u8 0,.int .u8 0,.int .u8 0,.int .u8 0,.int .u8 0,.int .u8 0,.int .u8 0,.int .u8 0,.int .u8 0,.int .u8 0,.int .u8 0,.int .u8 0,.int .u8 0,.int .u8 0,.int .u8 0,.int .u8 0,.int .u8 0,.int .u8 0,.int .u8 0,.int .u8 0,.int .u8 0,.int .u8 0,.int .u8 0,.int .u8 0,.int .u8 0,.int .i64 0,.int .i64 0]) w:=(zero_of_info (P:=Tryz.prog) (t:=227) (n:=74) (by kernel_rfl)).1 w
theorem st_new (w:World):St (w.alloc (.cells (Cells hash0 (List.replicate 64 0) 0 0).toArray 227)) w.heap.size []:=⟨List.replicate 64 0,rfl,Blk.new w _ _⟩
set_option maxRecDepth 100000 in
theorem new_any (w:World):Calls Tryz.prog 145 #[] w fun e w'=>∃ B,e=.returned (.pointer (some ⟨B,0,none⟩))∧w.heap.size≤B∧St w' B []∧Below w.heap.size w w':=by
 go_enter Tryz.func145,Tryz.ntmps145
 go_wp2_with fail
 refine (begun_any w).mono ?_
 rintro e w1 ⟨rfl,hb⟩
 have HB:Hid (Below w.heap.size w w1):=hb
 clear hb
 have hz:=Tryz.zeroStream
 go_wp2
 go_ret
 refine ⟨w1.heap.size,rfl,HB.out.size,st_new w1,HB.out.alloc HB.out.size _⟩
theorem arr64_len:Tryz.prog.arrayLen 225=64:=by kernel_rfl
theorem arr64_size (w:World):(sizeOf (Tryz.prog.elem 225)).run Tryz.prog w=.ok 1 w:=by kernel_rfl
theorem arr64_under:Tryz.prog.underlying 225=some (.array (Tryz.prog.arrayLen 225) (Tryz.prog.elem 225)):=by kernel_rfl
theorem arr64_h (w:World) (b off n:Nat) (h:n≤64):(Instr.sliceAt 225 (.pointer (some ⟨b,off,none⟩)) none (some (.int .i64 n)) none).run Tryz.prog w=.ok (.slice (some ⟨b,off,none⟩) n 64) w:=by
 rw [run_sliceAt_array_h w _ _ arr64_under .i64 n (by omega) (by rw [arr64_len];omega),arr64_size]
 simp only [Result.andThen,slicedAt,arr64_len,add_plain,Int.toNat_natCast]
 rw [if_neg (by omega)]
 simp
theorem arr64_l (w:World) (b off n:Nat) (h:n<64):(Instr.sliceAt 225 (.pointer (some ⟨b,off,none⟩)) (some (.int .i64 n)) none none).run Tryz.prog w=.ok (.slice (some ⟨b,off+n,none⟩) (64-n) (64-n)) w:=by
 rw [run_sliceAt_array_l w _ _ arr64_under .i64 n (by omega) (by rw [arr64_len];omega),arr64_size]
 simp only [Result.andThen,slicedAt,arr64_len,add_plain,Int.toNat_natCast]
 rw [if_neg (by omega)]
 simp
end Go.Proofs.YtbnpgakmhhfjkaaGreatDoor
namespace Go.Proofs.YtbnpgakmhhfjkaaGreatDoor
open Go.RowKit Rc
open Tr (Nm En T)
namespace Sn
variable {s:Snaps} {t:T}
def take (s:Snaps) (t:T):(Int × Nat) × Snaps :=
 if 8≤s.all.length then ((0,4),s) else
 ((s.next,0),⟨s.all++[⟨s.next,Sh.sum (s.last++Tr.save (Tr.committed t)),Tr.committed t⟩],s.next+1,Sh.sum (s.last++Tr.save (Tr.committed t))⟩)
def forget (s:Snaps) (id:Int) (now:Nat):Nat × Snaps :=
 match s.all.find? (fun x=>decide (x.id=id)) with
 | none=>(29,s)
 | some x=>if 0<(Wo.live x.tree now).length then (28,s) else (0,⟨s.all.filter (fun y=>decide (y.id≠id)),s.next,s.last⟩)
def new:Snaps:=⟨[],1,[]⟩
theorem new_ok:Ok new:=⟨by decide,(fun x h=>by cases h),(fun x h=>by cases h),.nil,(fun x h=>by cases h),by decide,by decide⟩
theorem take_many (h:8≤s.all.length):take s t=((0,4),s):=if_pos h
theorem take_one (h:¬ 8≤s.all.length):take s t=((s.next,0),⟨s.all++[⟨s.next,Sh.sum (s.last++Tr.save (Tr.committed t)),Tr.committed t⟩],s.next+1,Sh.sum (s.last++Tr.save (Tr.committed t))⟩):=if_neg h
theorem take_ok (h:Ok s) (hn:s.next<1000000000000000) (hG:Tr.Good t) (hS:Tr.Slim t):Ok (take s t).2:=by
 rcases Nat.lt_or_ge s.all.length 8 with h8|h8
 ·rw [take_one (by omega)]
  have hnx:=h.next
  refine ⟨by simp only [List.length_append,List.length_cons,List.length_nil];omega,fun x hx=>?_,fun x hx=>?_,?_,fun x hx=>?_,⟨by show _≤s.next+1;omega,by show s.next+1≤_;omega⟩,by show (Sh.sum _).length≤32;rw [Sh.sum_length];decide⟩
  ·rcases List.mem_append.1 hx with hx|hx
   ·exact h.tree x hx
   ·obtain rfl:=List.mem_singleton.1 hx
    exact ⟨Tr.committed_good hG,Tr.committed_slim hS⟩
  ·rcases List.mem_append.1 hx with hx|hx
   ·exact h.hash x hx
   ·obtain rfl:=List.mem_singleton.1 hx
    exact Sh.sum_length _
  ·refine List.pairwise_append.2 ⟨h.rise,List.pairwise_singleton _ _,fun x hx y hy=>?_⟩
   obtain rfl:=List.mem_singleton.1 hy
   exact (h.ids x hx).2
  ·rcases List.mem_append.1 hx with hx|hx
   ·have:=h.ids x hx
    exact ⟨this.1,by show x.id<s.next+1;omega⟩
   ·obtain rfl:=List.mem_singleton.1 hx
    exact ⟨hnx.1,by show s.next<s.next+1;omega⟩
 ·rw [take_many h8]
  exact h
theorem take_next:(take s t).2.next≤s.next+1:=by
 unfold take
 split
 ·show s.next≤_;omega
 ·exact Int.le_refl _
theorem forget_none {id:Int} (now:Nat) (h:∀ x ∈ s.all,x.id≠id):forget s id now=(29,s):=by
 unfold forget
 rw [List.find?_eq_none.2 fun x hx=>by simpa using h x hx]
theorem find_at (h:s.all.Pairwise fun a b=>a.id<b.id) {x:One} (hx:x ∈ s.all):s.all.find? (fun y=>decide (y.id=x.id))=some x:=by
 generalize s.all=l at h hx
 induction l with
 | nil=>cases hx
 | cons a l ih =>
   obtain ⟨h1,h2⟩:=List.pairwise_cons.1 h
   by_cases ha:a.id=x.id
   ·rw [List.find?_cons_of_pos (by simpa using ha)]
    rcases List.mem_cons.1 hx with rfl|hx
    ·rfl
    ·have:=h1 x hx
     omega
   ·rw [List.find?_cons_of_neg (by simpa using ha)]
    rcases List.mem_cons.1 hx with rfl|hx
    ·exact absurd rfl ha
    ·exact ih h2 hx
theorem forget_kept (h:s.all.Pairwise fun a b=>a.id<b.id) {x:One} (hx:x ∈ s.all) {now:Nat} (hk:0<(Wo.live x.tree now).length):forget s x.id now=(28,s):=by
 unfold forget
 rw [find_at h hx]
 exact if_pos hk
theorem filter_at:∀ {l:List One},l.Pairwise (fun a b=>a.id<b.id)→∀ {j:Nat} {x:One},l[j]?=some x→l.filter (fun y=>decide (y.id≠x.id))=l.take j++l.drop (j+1)
 | [],_,j,x,hx=>by simp at hx
 | a :: l,h,0,x,hx=>by
   obtain rfl:a=x:=by simpa using hx
   obtain ⟨h1,h2⟩:=List.pairwise_cons.1 h
   rw [List.filter_cons_of_neg (by simp),List.filter_eq_self.2 fun y hy=>by have:=h1 y hy;simp;omega]
   rfl
 | a :: l,h,j+1,x,hx=>by
   obtain ⟨h1,h2⟩:=List.pairwise_cons.1 h
   have hx:l[j]?=some x:=by simpa using hx
   have:=h1 x (List.mem_of_getElem? hx)
   rw [List.filter_cons_of_pos (by simp;omega),filter_at h2 hx]
   rfl
theorem forget_gone (h:s.all.Pairwise fun a b=>a.id<b.id) {j:Nat} {x:One} (hx:s.all[j]?=some x) {now:Nat} (hk:¬ 0<(Wo.live x.tree now).length):forget s x.id now=(0,⟨s.all.take j++s.all.drop (j+1),s.next,s.last⟩):=by
 unfold forget
 rw [find_at h (List.mem_of_getElem? hx),← filter_at h hx]
 exact if_neg hk
theorem forget_sub (id:Int) (now:Nat):(∀ x ∈ (forget s id now).2.all,x ∈ s.all)∧(forget s id now).2.next=s.next∧(forget s id now).2.last=s.last∧(forget s id now).2.all.Sublist s.all:=by
 unfold forget
 split
 ·exact ⟨fun _ h=>h,rfl,rfl,List.Sublist.refl _⟩
 ·split
  ·exact ⟨fun _ h=>h,rfl,rfl,List.Sublist.refl _⟩
  ·exact ⟨fun x h=>(List.mem_filter.1 h).1,rfl,rfl,List.filter_sublist⟩
theorem forget_ok (h:Ok s) (id:Int) (now:Nat):Ok (forget s id now).2:=by
 obtain ⟨h1,h2,h3,h4⟩:=forget_sub (s:=s) id now
 exact ⟨Nat.le_trans h4.length_le h.few,fun x hx=>h.tree x (h1 x hx),fun x hx=>h.hash x (h1 x hx),h.rise.sublist h4,fun x hx=>by rw [h2];exact h.ids x (h1 x hx),by rw [h2];exact h.next,by rw [h3];exact h.last⟩
theorem snCells_cut:∀ (l:List One) (m:List (Value × Value)) (j:Nat),l.length=m.length→snCells (l.take j++l.drop (j+1)) (m.take j++m.drop (j+1))=(snCells l m).take (j*3)++(snCells l m).drop ((j+1)*3)
 | [],[],j,_=>by simp [snCells]
 | [],_ :: _,_,h=>by simp at h
 | _ :: _,[],_,h=>by simp at h
 | a :: l,b :: m,0,_=>by simp [snCells]
 | a :: l,b :: m,j+1,h=>by
   have ih:=snCells_cut l m j (by simpa using h)
   rw [show (j+1)*3=j*3+1+1+1 by omega,show (j+1+1)*3=(j+1)*3+1+1+1 by omega]
   simp only [snCells,List.take_succ_cons,List.drop_succ_cons,List.cons_append]
   rw [ih]
theorem snCells_app:∀ (l:List One) (m:List (Value × Value)) (x:One) (v:Value × Value),l.length=m.length→snCells (l++[x]) (m++[v])=snCells l m++[.int .i64 x.id,v.1,v.2]
 | [],[],x,v,_=>rfl
 | [],_ :: _,_,_,h=>by simp at h
 | _ :: _,[],_,_,h=>by simp at h
 | a :: l,b :: m,x,v,h=>by
   have ih:=snCells_app l m x v (by simpa using h)
   simp only [snCells,List.cons_append]
   rw [ih]
theorem snCells_one {D:Nat→Prop} {w:World} {p:Nat} {av lv:Value} {els:List (Value × Value)} (h:SnIn p av lv els D s w):∀ u ∈ snCells s.all els,u.oneCell'=true:=by
 have key:∀ (l:List One) (m:List (Value × Value)),(∀ (j:Nat) (x:One) (v:Value × Value),l[j]?=some x→m[j]?=some v→BV D w v.1 x.hash∧BV D w v.2 (Tr.save x.tree))→∀ u ∈ snCells l m,u.oneCell'=true:=by
  intro l
  induction l with
  | nil=>intro m _ u hu;simp [snCells] at hu
  | cons a l ih =>
    intro m hm u hu
    cases m with
    | nil=>simp [snCells] at hu
    | cons b m =>
      obtain ⟨⟨X,c,h1,_⟩,⟨Y,d,h2,_⟩⟩:=hm 0 a b rfl rfl
      simp only [snCells,List.mem_cons] at hu
      rcases hu with rfl|rfl|rfl|hu
      ·rfl
      ·rw [h1];rfl
      ·rw [h2];rfl
      ·exact ih m (fun j x v hx hv=>hm (j+1) x v (by simpa using hx) (by simpa using hv)) u hu
 exact key s.all els h.each
theorem SnIn.less {D:Nat→Prop} {w w':World} {p:Nat} {av av' lv:Value} {els:List (Value × Value)} (h:SnIn p av lv els D s w) {j:Nat} (hb:Blk w' p 135 [av',.int .i64 s.next,lv])
    (hr:w'.ownsRow 0 138 3 av' (s.all.take j++s.all.drop (j+1)).length ((snCells s.all els).take (j*3)++(snCells s.all els).drop ((j+1)*3))) (hs:w.heap.size≤w'.heap.size) (hD:∀ b,D b→w'.heap[b]?=w.heap[b]?) (ha:av'.ownBlock=av.ownBlock) :
    SnIn p av' lv (els.take j++els.drop (j+1)) D ⟨s.all.take j++s.all.drop (j+1),s.next,s.last⟩ w':=by
 refine ⟨hb,?_,?_,fun i x v hx hv=>?_,h.last.keep hs hD,fun b h1=>⟨Nat.lt_of_lt_of_le (h.low b h1).1 hs,(h.low b h1).2.1,by rw [ha];exact (h.low b h1).2.2⟩⟩
 ·rw [snCells_cut _ _ _ h.len.symm]
  exact hr
 ·simp only [List.length_append,List.length_take,List.length_drop,h.len]
 ·have key:∃ i2:Nat,s.all[i2]?=some x∧els[i2]?=some v:=by
   have hl:=h.len
   rcases Nat.lt_or_ge i (s.all.take j).length with hi|hi
   ·rw [List.getElem?_append_left hi] at hx
    rw [List.getElem?_append_left (by rw [List.length_take] at hi ⊢;omega)] at hv
    rw [List.getElem?_take] at hx hv
    split at hx
    ·rename_i hij
     rw [if_pos hij] at hv
     exact ⟨i,hx,hv⟩
    ·cases hx
   ·rw [List.getElem?_append_right hi] at hx
    rw [List.getElem?_append_right (by rw [List.length_take] at hi ⊢;omega)] at hv
    rw [List.getElem?_drop] at hx hv
    rw [List.length_take] at hx hv
    rw [hl] at hv
    exact ⟨_,hx,hv⟩
  obtain ⟨i2,h1,h2⟩:=key
  obtain ⟨k1,k2⟩:=h.each i2 x v h1 h2
  exact ⟨k1.keep hs hD,k2.keep hs hD⟩
end Sn
end Go.Proofs.YtbnpgakmhhfjkaaGreatDoor
namespace Go.Proofs.YtbnpgakmhhfjkaaGreatDoor
namespace St
structure Opn where
 kind:Int
 path:Bs
 dest:Bs
 fd:Int
 at_:Int
 n:Int
 till:Nat
 snap:Int
 data:Bs
def asks1 (k:Int):Bool:=k==1 || k==2 || k==3 || k==8 || k==9 || k==11 || k==12 || k==13
def asks2 (k:Int):Bool:=k==7 || k==10
def paths (o:Opn):List Bs × List Bs × Nat :=
 if asks1 o.kind then ((Pa.split 8 o.path).1,[],(Pa.split 8 o.path).2)
 else if asks2 o.kind then (if (Pa.split 8 o.path).2=0 then ((Pa.split 8 o.path).1,(Pa.split 8 o.dest).1,(Pa.split 8 o.dest).2) else ((Pa.split 8 o.path).1,[],(Pa.split 8 o.path).2))
 else ([],[],0)
end St
end Go.Proofs.YtbnpgakmhhfjkaaGreatDoor
namespace Go.Proofs.YtbnpgakmhhfjkaaGreatDoor
open Go.RowKit Rc
open Tr (Nm En T)
namespace St
inductive Fd where
 | free
 | w (id:Int)
 | r (data:Bs)
def Fd.isFree:Fd→Bool
 | .free=>true
 | _=>false
structure State where
 tree:T
 snaps:Sn.Snaps
 now:Nat
 fds:List Fd
structure Rep where
 err:Nat
 n:Int
 data:Bs
 names:List Bs
 node:Nd
def no (e:Nat):Rep:=⟨e,0,[],[],Nd.zero⟩
def num (n:Int):Rep:=⟨0,n,[],[],Nd.zero⟩
def new:State:=⟨Tr.new,Sn.new,0,List.replicate 8 .free⟩
def least (l:List Fd):Option Nat:=l.findIdx? Fd.isFree
def treeAt (s:State) (k:Int):Option T:=if k=0 then some s.tree else (s.snaps.all.find? fun x=>decide (x.id=k)).map (·.tree)
def lookN (t:T) (p:List Bs):Nd × Nat:=if (Tr.look t p).2≠0 then (Nd.zero,(Tr.look t p).2) else (Tr.ndOf t (Tr.look t p).1,0)
def alone (b:Bs):T:=(Tr.append (Tr.make Tr.new [[102,105,108,101]] 1).2 1 b).2
def used (s:State) (k:Int):Option Fd:=if k<0 then none else match s.fds[k.toNat]? with
 | some .free=>none
 | x=>x
def create (s:State) (p:List Bs):Rep × State:=match least s.fds with
 | none=>(no 25,s)
 | some k=>if (Tr.make s.tree p 1).1.2≠0 then (no (Tr.make s.tree p 1).1.2,{ s with tree:=(Tr.make s.tree p 1).2 })
   else (num k,{ s with tree:=(Tr.make s.tree p 1).2,fds:=s.fds.set k (.w (Tr.make s.tree p 1).1.1) })
def openFile (s:State) (p:List Bs) (k:Int):Rep × State:=match treeAt s k with
 | none=>(no 29,s)
 | some t=>match least s.fds with
   | none=>(no 25,s)
   | some f=>if (lookN t p).2≠0 then (no (lookN t p).2,s) else if (lookN t p).1.kind=2 then (no 22,s) else if (lookN t p).1.shut=false then (no 25,s)
     else (num f,{ s with fds:=s.fds.set f (.r (Tr.read t (lookN t p).1.id 0 (lookN t p).1.size).1) })
def readFile (s:State) (k a n:Int):Rep:=match used s k with
 | some (.r b)=>⟨(Tr.read (alone b) 1 a n).2,(Tr.read (alone b) 1 a n).1.length,(Tr.read (alone b) 1 a n).1,[],Nd.zero⟩
 | _=>no 26
def writeFile (s:State) (k:Int) (b:Bs):Rep × State:=match used s k with
 | some (.w i)=>if 600<b.length then (no 3,s) else if (Tr.append s.tree i b).1≠0 then (no (Tr.append s.tree i b).1,{ s with tree:=(Tr.append s.tree i b).2 }) else (num b.length,{ s with tree:=(Tr.append s.tree i b).2 })
 | _=>(no 26,s)
def closeFile (s:State) (k:Int) (u:Nat):Nat × State:=match used s k with
 | some (.w i)=>if (Tr.seal_ s.tree i u).1≠0 then ((Tr.seal_ s.tree i u).1,{ s with tree:=(Tr.seal_ s.tree i u).2 }) else (0,{ s with tree:=(Tr.seal_ s.tree i u).2,fds:=s.fds.set k.toNat .free })
 | some (.r _)=>(0,{ s with fds:=s.fds.set k.toNat .free })
 | _=>(26,s)
def unlink (s:State) (p:List Bs):Nat × State :=
 if (lookN s.tree p).2≠0 then ((lookN s.tree p).2,s) else if Wo.remove (lookN s.tree p).1 s.now≠0 then (Wo.remove (lookN s.tree p).1 s.now,s) else ((Tr.unlink s.tree p).1,{ s with tree:=(Tr.unlink s.tree p).2 })
def keep (s:State) (p:List Bs) (u:Nat):Nat × State :=
 if (lookN s.tree p).2≠0 then ((lookN s.tree p).2,s) else if Wo.keep (lookN s.tree p).1 u≠0 then (Wo.keep (lookN s.tree p).1 u,s) else ((Tr.keep s.tree (lookN s.tree p).1.id u).1,{ s with tree:=(Tr.keep s.tree (lookN s.tree p).1.id u).2 })
def list (s:State) (p:List Bs) (k:Int):Rep:=match treeAt s k with
 | none=>no 29
 | some t=>if (Tr.look t p).2≠0 then no (Tr.look t p).2 else ⟨(Tr.list t (Tr.look t p).1).2,(Tr.list t (Tr.look t p).1).1.length,[],(Tr.list t (Tr.look t p).1).1,Nd.zero⟩
def stat (s:State) (p:List Bs) (k:Int):Rep:=match treeAt s k with
 | none=>no 29
 | some t=>⟨(lookN t p).2,0,[],[],(lookN t p).1⟩
def tick (now u:Nat):Nat:=if u≤1099511627776 then (if now<u then u else now) else now
def do_ (s:State) (o:Opn):Rep × State :=
 if (paths o).2.2≠0 then (no (paths o).2.2,s)
 else if o.kind=1 then create s (paths o).1
 else if o.kind=2 then (no (Tr.make s.tree (paths o).1 2).1.2,{ s with tree:=(Tr.make s.tree (paths o).1 2).2 })
 else if o.kind=3 then openFile s (paths o).1 o.snap
 else if o.kind=4 then (readFile s o.fd o.at_ o.n,s)
 else if o.kind=5 then writeFile s o.fd o.data
 else if o.kind=6 then (no (closeFile s o.fd o.till).1,(closeFile s o.fd o.till).2)
 else if o.kind=7 then (no (Tr.link s.tree (paths o).1 (paths o).2.1).1,{ s with tree:=(Tr.link s.tree (paths o).1 (paths o).2.1).2 })
 else if o.kind=8 then (no (unlink s (paths o).1).1,(unlink s (paths o).1).2)
 else if o.kind=9 then (no (Tr.rmdir s.tree (paths o).1).1,{ s with tree:=(Tr.rmdir s.tree (paths o).1).2 })
 else if o.kind=10 then (no (Tr.rename s.tree (paths o).1 (paths o).2.1).1,{ s with tree:=(Tr.rename s.tree (paths o).1 (paths o).2.1).2 })
 else if o.kind=11 then (list s (paths o).1 o.snap,s)
 else if o.kind=12 then (stat s (paths o).1 o.snap,s)
 else if o.kind=13 then (no (keep s (paths o).1 o.till).1,(keep s (paths o).1 o.till).2)
 else if o.kind=14 then (⟨(Sn.take s.snaps s.tree).1.2,(Sn.take s.snaps s.tree).1.1,[],[],Nd.zero⟩,{ s with snaps:=(Sn.take s.snaps s.tree).2 })
 else if o.kind=15 then (no (Sn.forget s.snaps o.snap s.now).1,{ s with snaps:=(Sn.forget s.snaps o.snap s.now).2 })
 else if o.kind=16 then (no 0,{ s with now:=tick s.now o.till })
 else if o.kind=17 then (no 0,s)
 else (no 30,s)
end St
end Go.Proofs.YtbnpgakmhhfjkaaGreatDoor
namespace Go.Proofs.YtbnpgakmhhfjkaaGreatDoor
open Go.RowKit Rc
open Tr (Nm En T)
namespace Tr
variable {t:T}
def Few (t:T):Prop:=∀ e ∈ t,e.nd.links≤64
theorem mem_insE:∀ {t:T} {n e:En},e ∈ insE t n→e=n∨e ∈ t
 | [],n,e,h=>.inl (List.mem_singleton.1 h)
 | a :: t,n,e,h=>by
   unfold insE at h
   split at h
   ·rcases List.mem_cons.1 h with h|h
    ·exact .inr (h ▸ .head _)
    ·exact (mem_insE h).imp id (.tail _)
   ·rcases List.mem_cons.1 h with h|h
    ·exact .inl h
    ·exact .inr h
theorem upd_few (h:Few t) {i:Int} {f:En→En} (hf:∀ e ∈ t,e.nd.id=i→(f e).nd.links≤64):Few (upd t i f):=fun e he=>by
 obtain ⟨e0,h0,rfl⟩:=upd_mem he
 split
 ·next hi=>exact hf e0 h0 hi
 ·exact h e0 h0
theorem remove_few (h:Few t) (i:Int):Few (remove t i):=fun e he=>h e (List.mem_filter.1 he).1
theorem put_few (h:Few t) (d:Int) (x:Bs) (k:Int):Few (put t d x k):=upd_few h fun e he _=>h e he
theorem cut_few (h:Few t) (d:Int) (x:Bs):Few (cut t d x):=upd_few h fun e he _=>h e he
theorem less_few (h:Few t) (i:Int):Few (more t i (-1)):=upd_few h fun e he _=>by
 have:=h e he
 show e.nd.links+-1≤64
 omega
theorem new_few:Few new:=fun e he=>by
 obtain rfl:=List.mem_singleton.1 he
 show (1:Int)≤64
 decide
theorem make_few (h:Few t) (q:List Bs) (kind:Int):Few (make t q kind).2:=by
 unfold make
 repeat' split
 all_goals first
  | exact h
  | exact put_few (fun e he=>by
      rcases mem_insE he with rfl|he
      ·show (1:Int)≤64;decide
      ·exact h e he) _ _ _
theorem link_few (hG:Good t) (h:Few t) (q r:List Bs):Few (link t q r).2:=by
 unfold link
 repeat' split
 all_goals first
  | exact h
  | skip
 rename_i hl
 refine upd_few (put_few h _ _ _) fun e he hi=>?_
 obtain ⟨e0,h0,rfl⟩:=upd_mem he
 have hn:(if e0.nd.id=(place t r).1 then ({ e0 with names:=ins e0.names (place t r).2.1 (lookF t 0 q).1 }:En) else e0).nd=e0.nd:=by split <;> rfl
 rw [hn] at hi
 have:=ndOf_of (hG.ris.find h0)
 rw [hi] at this
 rw [this] at hl
 show (if e0.nd.id=(place t r).1 then ({ e0 with names:=ins e0.names (place t r).2.1 (lookF t 0 q).1 }:En) else e0).nd.links+1≤64
 rw [hn]
 omega
theorem unlink_few (h:Few t) (q:List Bs):Few (unlink t q).2:=by
 unfold unlink unlinked
 repeat' split
 all_goals first
  | exact h
  | exact remove_few (less_few (cut_few h _ _) _) _
  | exact less_few (cut_few h _ _) _
theorem rmdir_few (h:Few t) (q:List Bs):Few (rmdir t q).2:=by
 unfold rmdir
 repeat' split
 all_goals first
  | exact h
  | exact remove_few (cut_few h _ _) _
theorem rename_few (h:Few t) (q r:List Bs):Few (rename t q r).2:=by
 unfold rename
 repeat' split
 all_goals first
  | exact h
  | exact put_few (cut_few h _ _) _ _ _
theorem append_few (h:Few t) (i:Int) (b:Bs):Few (append t i b).2:=by
 unfold append
 repeat' split
 all_goals first
  | exact h
  | exact upd_few h fun e he _=>h e he
theorem seal_few (h:Few t) (i:Int) (u:Nat):Few (seal_ t i u).2:=by
 have h1:Few (upd t i (shutE u)):=upd_few h fun e he _=>h e he
 unfold seal_
 repeat' split
 all_goals first
  | exact h
  | exact remove_few h1 _
  | exact h1
theorem keep_few (h:Few t) (i:Int) (u:Nat):Few (keep t i u).2:=by
 unfold keep
 repeat' split
 all_goals first
  | exact h
  | exact upd_few h fun e he _=>h e he
theorem all_of_each (m:Nat):∀ (ids:List Int) (l:List Int),(∀ x ∈ l,x ∈ ids)→(∀ i ∈ ids,l.countP (fun x=>x==i)≤m)→l.length≤ids.length*m
 | [],l,h,_=>by
   cases l with
   | nil=>simp
   | cons a l=>cases h a (.head _)
 | i :: ids,l,h,hm=>by
   have h1:=all_of_each m ids (l.filter fun x=>!(x==i)) (fun x hx=>by
    obtain ⟨h2,h3⟩:=List.mem_filter.1 hx
    rcases List.mem_cons.1 (h x h2) with h4|h4
    ·subst h4;simp at h3
    ·exact h4) (fun j hj=>Nat.le_trans (by rw [List.countP_filter];exact List.countP_mono_left fun x _ hx=>by simp at hx ⊢;exact hx.1) (hm j (.tail _ hj)))
   have h2:=hm i (.head _)
   have h3:l.length=l.countP (fun x=>x==i)+(l.filter fun x=>!(x==i)).length:=by
    rw [← List.countP_eq_length_filter]
    rw [List.length_eq_countP_add_countP (fun x=>x==i) (l:=l)]
    congr 1
    exact List.countP_congr fun x _=>by simp
   rw [List.length_cons,Nat.add_mul]
   omega
theorem Good.slim (h:Good t) (hf:Few t):Slim t:=fun e he=>by
 have h1:((flat t).map fun x=>x.2.2).length≤(t.map fun e=>e.nd.id).length*64:=by
  refine all_of_each 64 _ _ (fun x hx=>?_) fun i hi=>?_
  ·obtain ⟨y,hy,rfl⟩:=List.mem_map.1 hx
   obtain ⟨e1,he1,hy⟩:=List.mem_flatMap.1 hy
   obtain ⟨n,hn,rfl⟩:=List.mem_map.1 hy
   obtain ⟨e2,he2⟩:=Option.isSome_iff_exists.1 (h.leads e1 he1 n hn).2
   obtain ⟨h3,h4⟩:=find_some he2
   exact List.mem_map.2 ⟨e2,h3,h4⟩
  ·obtain ⟨e1,he1,rfl⟩:=List.mem_map.1 hi
   have h2:=h.linked e1 he1
   have h3:=hf e1 he1
   rw [List.countP_map]
   show (flat t).countP (fun x=>x.2.2==e1.nd.id)≤64
   unfold count at h2
   split at h2 <;> omega
 have h2:e.names.length≤(flat t).length:=by
  obtain ⟨A,B,rfl⟩:=List.append_of_mem he
  simp only [flat,List.flatMap_append,List.flatMap_cons,List.length_append,List.length_map]
  omega
 have h3:=h.few
 simp only [List.length_map] at h1
 omega
theorem read_short (h:Good t) (i a n:Int):(read t i a n).1.length≤4096:=by
 unfold read
 repeat' split
 ·simp
 ·simp
 ·refine Nat.le_trans (List.length_take_le' _ _) ?_
  rw [List.length_drop]
  refine Nat.le_trans (Nat.sub_le _ _) ?_
  unfold dataOf
  cases he:find t i with
  | none=>simp
  | some e =>
    obtain ⟨h1,_⟩:=find_some he
    have h2:=(h.each e h1).nd
    have h3:=(h.each e h1).size
    unfold Nd.Right at h2
    show e.data.length≤4096
    omega
end Tr
namespace St
structure Ok (s:State):Prop where
 tree:Tr.Good s.tree
 few:Tr.Few s.tree
 snaps:Sn.Ok s.snaps
 now:s.now≤1099511627776
 fds:s.fds.length=8
 rd:∀ b,Fd.r b ∈ s.fds→b.length≤4096
theorem Ok.slim {s:State} (h:Ok s):Tr.Slim s.tree:=h.tree.slim h.few
theorem new_ok:Ok new:=⟨Tr.new_good,Tr.new_few,Sn.new_ok,by decide,rfl,fun b hb=>by simp [new] at hb⟩
theorem alone_good (b:Bs):Tr.Good (alone b):=Tr.append_good (Tr.make_good Tr.new_good _ _) _ _
theorem treeAt_ok {s:State} (h:Ok s) {k:Int} {t:T} (ht:treeAt s k=some t):Tr.Good t∧Tr.Slim t:=by
 unfold treeAt at ht
 split at ht
 ·cases ht;exact ⟨h.tree,h.slim⟩
 ·obtain ⟨x,hx,rfl⟩:=Option.map_eq_some_iff.1 ht
  exact h.snaps.tree x (List.mem_of_find?_eq_some hx)
theorem least_lt {l:List Fd} {k:Nat} (h:least l=some k):k<l.length:=by
 unfold least at h
 exact (List.findIdx?_eq_some_iff_getElem.1 h).1
theorem Ok.with_tree {s:State} (h:Ok s) {t:T} (hG:Tr.Good t) (hF:Tr.Few t):Ok { s with tree:=t }:=⟨hG,hF,h.snaps,h.now,h.fds,h.rd⟩
theorem Ok.with_fd {s:State} (h:Ok s) (k:Nat) {f:Fd} (hf:∀ b,f=.r b→b.length≤4096):Ok { s with fds:=s.fds.set k f } :=
 ⟨h.tree,h.few,h.snaps,h.now,by simpa using h.fds,fun b hb=>by
  rcases List.mem_or_eq_of_mem_set hb with h1|h1
  ·exact h.rd b h1
  ·exact hf b h1.symm⟩
theorem create_ok {s:State} (h:Ok s) (p:List Bs):Ok (create s p).2:=by
 have h1:=h.with_tree (Tr.make_good h.tree p 1) (Tr.make_few h.few p 1)
 unfold create
 repeat' split
 ·exact h
 ·exact h1
 ·exact h1.with_fd _ (fun b hb=>by cases hb)
theorem open_ok {s:State} (h:Ok s) (p:List Bs) (k:Int):Ok (openFile s p k).2:=by
 unfold openFile
 repeat' split
 all_goals first
  | exact h
  | skip
 next t ht _ _ _ _ _ _=>exact h.with_fd _ fun b hb=>by cases hb;exact Tr.read_short (treeAt_ok h ht).1 _ _ _
theorem write_ok {s:State} (h:Ok s) (k:Int) (b:Bs):Ok (writeFile s k b).2:=by
 unfold writeFile
 repeat' split
 all_goals first
  | exact h
  | exact h.with_tree (Tr.append_good h.tree _ _) (Tr.append_few h.few _ _)
theorem close_ok {s:State} (h:Ok s) (k:Int) (u:Nat):Ok (closeFile s k u).2:=by
 unfold closeFile
 repeat' split
 all_goals first
  | exact h
  | exact h.with_tree (Tr.seal_good h.tree _ _) (Tr.seal_few h.few _ _)
  | exact (h.with_tree (Tr.seal_good h.tree _ _) (Tr.seal_few h.few _ _)).with_fd _ (fun b hb=>by cases hb)
  | exact h.with_fd _ (fun b hb=>by cases hb)
theorem unlink_ok {s:State} (h:Ok s) (p:List Bs):Ok (unlink s p).2:=by
 unfold unlink
 repeat' split
 all_goals first
  | exact h
  | exact h.with_tree (Tr.unlink_good h.tree _) (Tr.unlink_few h.few _)
theorem keep_ok {s:State} (h:Ok s) (p:List Bs) (u:Nat):Ok (keep s p u).2:=by
 unfold keep
 repeat' split
 all_goals first
  | exact h
  | exact h.with_tree (Tr.keep_good h.tree _ _) (Tr.keep_few h.few _ _)
theorem tick_le (now u:Nat) (h:now≤1099511627776):tick now u≤1099511627776:=by
 unfold tick
 repeat' split
 all_goals omega
theorem ite_ok {c:Prop} [Decidable c] {a b:Rep × State} (ha:Ok a.2) (hb:Ok b.2):Ok (if c then a else b).2:=by
 split
 ·exact ha
 ·exact hb
theorem do_ok {s:State} (h:Ok s) (hn:s.snaps.next<1000000000000000) (o:Opn):Ok (do_ s o).2:=by
 unfold do_
 refine ite_ok h (ite_ok (create_ok h _) (ite_ok (h.with_tree (Tr.make_good h.tree _ _) (Tr.make_few h.few _ _)) (ite_ok (open_ok h _ _) (ite_ok h (ite_ok (write_ok h _ _) (ite_ok (close_ok h _ _) ?_))))))
 refine ite_ok (h.with_tree (Tr.link_good h.tree _ _) (Tr.link_few h.tree h.few _ _)) (ite_ok (unlink_ok h _) (ite_ok (h.with_tree (Tr.rmdir_good h.tree _) (Tr.rmdir_few h.few _)) (ite_ok (h.with_tree (Tr.rename_good h.tree _ _) (Tr.rename_few h.few _ _)) ?_)))
 refine ite_ok h (ite_ok h (ite_ok (keep_ok h _ _) (ite_ok ⟨h.tree,h.few,Sn.take_ok h.snaps hn h.tree h.slim,h.now,h.fds,h.rd⟩ (ite_ok ⟨h.tree,h.few,Sn.forget_ok h.snaps _ _,h.now,h.fds,h.rd⟩ (ite_ok ⟨h.tree,h.few,h.snaps,tick_le _ _ h.now,h.fds,h.rd⟩ (ite_ok h h))))))
theorem do_next (s:State) (o:Opn):(do_ s o).2.snaps.next≤s.snaps.next+1:=by
 have hite:∀ {c:Prop} [Decidable c] {a b:Rep × State},a.2.snaps.next≤s.snaps.next+1→b.2.snaps.next≤s.snaps.next+1→(if c then a else b).2.snaps.next≤s.snaps.next+1:=by
  intro c _ a b ha hb
  split
  ·exact ha
  ·exact hb
 have h0:s.snaps.next≤s.snaps.next+1:=by omega
 have hc:(create s (paths o).1).2.snaps=s.snaps:=by unfold create;repeat' split
                                                    all_goals rfl
 have ho:(openFile s (paths o).1 o.snap).2.snaps=s.snaps:=by unfold openFile;repeat' split
                                                             all_goals rfl
 have hw:(writeFile s o.fd o.data).2.snaps=s.snaps:=by unfold writeFile;repeat' split
                                                       all_goals rfl
 have hcl:(closeFile s o.fd o.till).2.snaps=s.snaps:=by unfold closeFile;repeat' split
                                                        all_goals rfl
 have hu:(unlink s (paths o).1).2.snaps=s.snaps:=by unfold unlink;repeat' split
                                                    all_goals rfl
 have hk:(keep s (paths o).1 o.till).2.snaps=s.snaps:=by unfold keep;repeat' split
                                                         all_goals rfl
 unfold do_
 refine hite h0 (hite (by rw [hc];exact h0) (hite h0 (hite (by rw [ho];exact h0) (hite h0 (hite (by rw [hw];exact h0) (hite (by show (closeFile s o.fd o.till).2.snaps.next≤_;rw [hcl];exact h0) ?_))))))
 refine hite h0 (hite (by show (unlink s (paths o).1).2.snaps.next≤_;rw [hu];exact h0) (hite h0 (hite h0 (hite h0 (hite h0 (hite (by show (keep s (paths o).1 o.till).2.snaps.next≤_;rw [hk];exact h0) ?_))))))
 exact hite Sn.take_next (hite (by show (Sn.forget s.snaps o.snap s.now).2.next≤_;rw [(Sn.forget_sub o.snap s.now).2.1];exact h0) (hite h0 (hite h0 h0)))
end St
end Go.Proofs.YtbnpgakmhhfjkaaGreatDoor
namespace Go.Proofs.YtbnpgakmhhfjkaaGreatDoor
open Go.RowKit Rc
open Tr (Nm En T)
namespace Sn
theorem snTy:Rf.RowTy 133 138 3 (.agg #[.int .i64 0,.slice none 0 0,.slice none 0 0]) 56:=⟨by kernel_rfl,by kernel_rfl,by kernel_rfl,rfl,by decide,by decide⟩
theorem run_room {w:World} {g sLen sCap m cx:Nat} {A:Option Addr} {cur ys:List Value} (t0:TypeId) (hb:Blk w g 138 cur) (hA:A≠none) (hsrc:Rf.Src w A ys) (hl:ys.length=m*3) (h1:∀ u ∈ ys,u.oneCell'=true) (hroom:sLen+m≤sCap) (hfit:sLen*3+ys.length≤cur.length) :
    ∃ w',(Builtin.append_ #[133,133] t0 #[.slice (some ⟨g,0,none⟩) sLen sCap,.slice A m cx]).run Tryz.prog w=.ok (.slice (some ⟨g,0,none⟩) (sLen+m) sCap) w'∧Blk w' g 138 (cur.take (sLen*3)++ys++cur.drop (sLen*3+ys.length))∧Keeps w w' g:=by
 obtain ⟨i,hi,hz0,hz1,hz2⟩:=snTy.parts
 cases A with
 | none=>exact absurd rfl hA
 | some a =>
   have hs2:∀ j u,ys[j]?=some u→w.cell? (a.add j)=some u:=fun j u hj=>by
    obtain ⟨a',ha',hc⟩:=hsrc (by have:=(List.getElem?_eq_some_iff.1 hj).1;omega)
    cases ha'
    exact hc j u hj
   have h:=run_append_room (P:=Tryz.prog) w 133 t0 138 i snTy.under hi g sLen sCap cur.toArray hb a m cx ys (by rw [hl,hz1]) hs2 h1 hroom (by rw [hz1];simpa using hfit)
   rw [hz1] at h
   exact ⟨_,h,hb.row _,(Keeps.refl w g).setRow _⟩
theorem step_room {ops:Array Oper} {o:Oper} {a:Act} {w:World} {K:Act→World→Prop} {Q:Exit→Act→World→Prop} {E:Prop} (hgd:o.guard=none) (s x:Operand)
    (hop:o.op=.call { callee:=.builtin .append,args:=#[s,x],argTypes:=#[133,133] }) {g sLen sCap m cx N:Nat} {A:Option Addr} {cur ys zs:List Value} (hs:a.eval s=.slice (some ⟨g,0,none⟩) sLen sCap) (hx:a.eval x=.slice A m cx)
    (hb:Blk w g 138 cur) (hA:A≠none) (hsrc:Rf.Src w A ys) (hl:ys.length=m*3) (h1:∀ u ∈ ys,u.oneCell'=true) (hroom:sLen+m≤sCap) (hfit:sLen*3+ys.length≤cur.length) (hN:N=sLen+m) (hz:zs=cur.take (sLen*3)++ys++cur.drop (sLen*3+ys.length))
    (hK:∀ w',Hid (Blk w' g 138 zs)→Hid (Keeps w w' g)→K (a.put o.dst (.slice (some ⟨g,0,none⟩) N sCap)) w') :
    if Region.wanted o (yielded ops a.tmps)=true then Oper.wp Tryz.prog o a w K Q else E:=by
 subst hN hz
 rw [if_pos (show Region.wanted o (yielded ops a.tmps)=true by simp [Region.wanted,hgd])]
 obtain ⟨w',r1,r2,r3⟩:=run_room (cx:=cx) o.type hb hA hsrc hl h1 hroom hfit
 unfold Oper.wp
 simp [execOp,hop,resolve,invoke,builtin,hs,hx,r1,Result.andThen]
 exact hK w' r2 r3
theorem wpList_slice3 {ops:Array Oper} {rest:List Oper} {o:Oper} {a:Act} {w:World} {Q:Exit→Act→World→Prop} {t:TypeId} (hgd:o.guard=none) (x lo hi mx:Operand) (hop:o.op=.slice t x (some lo) (some hi) (some mx)) {X Lo Hi Mx v:Value} (hx:a.eval x=X) (h1:a.eval lo=Lo) (h2:a.eval hi=Hi) (h3:a.eval mx=Mx)
    (hr:(Instr.sliceAt t X (some Lo) (some Hi) (some Mx)).run Tryz.prog w=.ok v w) (hK:wpList Tryz.prog ops Q rest (a.put o.dst v) w):wpList Tryz.prog ops Q (o :: rest) a w:=by
 refine wpList_plain hgd fun K hK'=>?_
 unfold Oper.wp
 simp [execOp,hop,hx,h1,h2,h3,hr,Result.andThen]
 exact hK' _ _ hK
set_option maxHeartbeats 2000000 in
set_option maxRecDepth 100000 in
theorem del_any {w:World} {g n c i:Nat} {xs:List Value} (h:w.ownsRow 0 138 3 (.slice (some ⟨g,0,none⟩) n c) n xs) (hi:i<n) (hn:n≤8) (h1:∀ u ∈ xs,u.oneCell'=true) :
    Calls Tryz.prog 117 #[.slice (some ⟨g,0,none⟩) n c,.int .i64 (i:Nat),.int .i64 ((i:Int)+1)] w fun r w'=>r=.returned (.slice (some ⟨g,0,none⟩) (n-1) c)∧w'.ownsRow 0 138 3 (.slice (some ⟨g,0,none⟩) (n-1) c) (n-1) (xs.take (i*3)++xs.drop ((i+1)*3))∧Keeps w w' g:=by
 obtain ⟨hxl,h2⟩:=h
 rcases h2 with ⟨h3,_⟩|⟨g',cap,cur,h3,_,hb,hnc,hml,hsz,htk⟩
 ·cases h3
 ·injection h3 with h4 h5 h6
  injection h4 with h4
  injection h4 with h4
  subst h4 h6
  obtain ⟨L,hL⟩:∃ L,L=cur.toList:=⟨_,rfl⟩
  have HB:Hid (Blk w g 138 L):=by show Blk _ _ _ _;rw [hL];simpa [Blk] using hb
  have HLL:Hid (L.length=c*3∧L.take (n*3)=xs∧xs.length=n*3∧c≤maxLen):=⟨by rw [hL];simpa using hsz,by rw [hL];exact htk,hxl,hml⟩
  clear hb hsz htk hL hxl hml h5
  have hrunh:=fun W=>Rf.run_head snTy W (some ⟨g,0,none⟩) n c i (by omega)
  have hrunt:=fun W=>Rf.run_tail snTy W (some ⟨g,0,none⟩) n c (i+1) (by omega)
  obtain ⟨i1,hi1⟩:∃ i1,i1=i+1:=⟨_,rfl⟩
  have hw1:((i:Int)+1)=(i1:Int):=by omega
  rw [← hi1] at hrunt ⊢
  rw [hw1]
  obtain ⟨TL,hTL⟩:∃ TL,TL=Rf.cutR (some (⟨g,0,none⟩:Addr)) i1 3 c:=⟨_,rfl⟩
  rw [← hTL] at hrunt
  have HTN:Hid (TL≠none):=by
   show _≠_
   rw [hTL]
   unfold Rf.cutR
   split <;> simp
  have HSRC:Hid (Rf.Src w TL (xs.drop (i1*3))):=by
   show Rf.Src _ _ _
   rw [hTL]
   exact Rf.Src.tail (fun hl=>⟨_,rfl,fun j u hj=>by
    rw [add_plain,Nat.zero_add,cell_of_row w g j L.toArray 138 (0,0) HB.out]
    rw [← HLL.out.2.1,List.getElem?_take] at hj
    split at hj
    ·simpa using hj
    ·cases hj⟩) i1 3 c n HLL.out.2.2.1 hnc
  have HXL:Hid ((xs.drop (i1*3)).length=(n-i1)*3∧∀ u ∈ xs.drop (i1*3),u.oneCell'=true):=⟨by rw [List.length_drop,HLL.out.2.2.1];omega,fun u hu=>h1 u (List.mem_of_mem_drop hu)⟩
  obtain ⟨ys,hys⟩:∃ ys,ys=xs.drop (i1*3):=⟨_,rfl⟩
  rw [← hys] at HSRC HXL ⊢
  have H1:=Lib.hid h1
  clear h1 hys hTL
  go_enter Tryz.func117,Tryz.ntmps117
  have g1:(i:Int)≤(i1:Int):=by omega
  have g2:(i1:Int)≤(n:Int):=by omega
  have g3:(n:Int)≤(c:Int):=by omega
  have g4:i1≤n:=by omega
  have g5:i≤i1:=by omega
  have hr3:∀ W,(Instr.sliceAt 133 (.slice (some ⟨g,0,none⟩) n c) (some (.int .i64 (i:Nat))) (some (.int .i64 (i1:Nat))) (some (.int .i64 (n:Nat)))).run Tryz.prog W=.ok (sliced (some ⟨g,0,none⟩) i i1 n 3) W:=fun W=>by
   have hu:Tryz.prog.underlying 133=some (.slice (Tryz.prog.elem 133)):=by rw [snTy.elem];exact snTy.under
   obtain ⟨it,hit,_,hs,_⟩:=snTy.parts
   have hz:(sizeOf (Tryz.prog.elem 133)).run Tryz.prog W=.ok 3 W:=by rw [snTy.elem];simp [sizeOf,typeInfo,hit,hs]
   have hbd:(Instr.sliceBounds true n c (some (.int .i64 (i:Nat))) (some (.int .i64 (i1:Nat))) (some (.int .i64 (n:Nat)))).run Tryz.prog W=.ok (i,i1,n) W:=by
    simp [Instr.sliceBounds,run_sliceBound,g1,g2,g3]
   rw [run_sliceAt_slice W _ _ _ _ _ hu,run_slice_any W _ _ _ _ hu,hbd]
   simp [Result.andThen,hz]
  have hne:((i:Int)==(i1:Int))=false:=by rw [beq_eq_false_iff_ne];omega
  obtain ⟨v3,hv3⟩:∃ v3,v3=sliced (some (⟨g,0,none⟩:Addr)) i i1 n 3:=⟨_,rfl⟩
  rw [← hv3] at hr3
  clear hv3
  have HI1:Hid (i1=i+1∧(i:Int)+1=(i1:Int)):=⟨hi1,hw1⟩
  clear hi1 hw1 g4 g5
  go_upto_region 5 with (refine wpList_slice3 rfl (.tmp 8) (.tmp 9) (.tmp 10) (.tmp 12) rfl rfl rfl rfl rfl (hr3 _) ?_;simp only [Act.put,List.setIfInBounds_toArray,List.set_cons_zero,List.set_cons_succ])
  go_region_law (refine step_room rfl (.tmp 22) (.tmp 25) rfl (N:=n-1) rfl rfl HB.out HTN.out HSRC.out HXL.out.1 HXL.out.2 (by have h0:=HI1.out.1;omega) (by have h0:=HI1.out.1;have h1:=HXL.out.1;have h2:=HLL.out.1;omega) (by have h0:=HI1.out.1;omega) rfl ?_;intro w5 HB5 HK5)
  obtain ⟨m,hm⟩:∃ m,m=n-1:=⟨_,rfl⟩
  rw [← hm]
  obtain ⟨L5,hL5⟩:∃ L5,L5=L.take (i*3)++ys++L.drop (i*3+ys.length):=⟨_,rfl⟩
  rw [← hL5] at HB5
  have hl5:L5.length=c*3:=by
   have h1:=HXL.out.1;have h2:=HLL.out.1;have h0:=HI1.out.1
   rw [hL5];simp only [List.length_append,List.length_take,List.length_drop];omega
  have hz5:(zeroValue 138).run Tryz.prog w5=.ok (.agg #[.int .i64 0,.slice none 0 0,.slice none 0 0]) w5:=by kernel_rfl
  obtain ⟨w6,cs,hcl,hb6,hk6,hl6⟩:=run_clear_k (P:=Tryz.prog) w5 133 138 0 (.agg #[.int .i64 0,.slice none 0 0,.slice none 0 0]) snTy.under hz5 g (m*3) 1 (c-m) L5 138 HB5.out (by rw [hl5];simp [Value.cells];omega) (by intro v hv;simp [Value.cells] at hv;rcases hv with rfl|rfl|rfl <;> rfl)
  have hr6:∀ W,(Instr.sliceAt 133 (.slice (some ⟨g,0,none⟩) m c) (some (.int .i64 (m:Nat))) (some (.int .i64 (n:Nat))) none).run Tryz.prog W=.ok (.slice (some ⟨g,m*3,none⟩) 1 (c-m)) W:=fun W=>by
   have hu:Tryz.prog.underlying 133=some (.slice (Tryz.prog.elem 133)):=by rw [snTy.elem];exact snTy.under
   obtain ⟨it,hit,_,hs,_⟩:=snTy.parts
   have hz:(sizeOf (Tryz.prog.elem 133)).run Tryz.prog W=.ok 3 W:=by rw [snTy.elem];simp [sizeOf,typeInfo,hit,hs]
   have g6:(m:Int)≤(n:Int):=by omega
   have g7:(n:Int)≤(c:Int):=by omega
   have hbd:(Instr.sliceBounds true m c (some (.int .i64 (m:Nat))) (some (.int .i64 (n:Nat))) none).run Tryz.prog W=.ok (m,n,c) W:=by
    simp [Instr.sliceBounds,run_sliceBound,g6,g7]
   rw [run_sliceAt_slice W _ _ _ _ _ hu,run_slice_any W _ _ _ _ hu,hbd]
   have e1:n-m=1:=by omega
   have e2:¬ c=m:=by omega
   simp [Result.andThen,hz,sliced,e1,e2,add_plain]
  have HF:Hid (L5=L.take (i*3)++ys++L.drop (i*3+ys.length)∧L5.length=c*3∧m=n-1∧Blk w6 g 138 (splice L5 (m*3) cs)∧Keeps w5 w6 g∧cs.length=3∧n≤c):=⟨hL5,hl5,hm,hb6,hk6,by rw [hl6];rfl,hnc⟩
  have HIN:Hid (i<n):=hi
  clear hL5 hl5 hm hb6 hk6 hl6 hrunh hrunt hr3 hne g1 g2 g3 hnc HB5
  simp only [Act.put,List.setIfInBounds_toArray,List.set_cons_zero,List.set_cons_succ]
  go_wp2_with fail
  go_ret
  obtain ⟨f1,f2,f3,f4,f5,f6,f7⟩:=HF.out
  have i2:=HI1.out.1
  have i3:=HIN.out
  have x1:=HXL.out.1
  obtain ⟨l1,l2,l3,l4⟩:=HLL.out
  refine ⟨by rw [f3];rfl,?_,(Keeps.refl w g).drew.trans (HK5.out.trans f5)⟩
  refine ⟨by rw [List.length_append,List.length_take,x1,l3];omega,.inr ⟨g,c,(splice L5 (m*3) cs).toArray,rfl,Nat.zero_le _,f4,by omega,l4,?_,?_⟩⟩
  ·rw [List.size_toArray,splice_length _ _ _ (by rw [f6,f2];omega),f2]
  ·have e5:(n-1)*3=m*3:=by rw [f3]
   show List.take ((n-1)*3) (splice L5 (m*3) cs)=_
   rw [e5,splice_take L5 (m*3) cs (by rw [f2];omega),f1,List.take_append_of_le_length (by rw [List.length_append,List.length_take,x1,l1];omega),List.take_of_length_le (by rw [List.length_append,List.length_take,x1,l1];omega),← l2,List.take_take,Nat.min_eq_left (by omega)]
end Sn
end Go.Proofs.YtbnpgakmhhfjkaaGreatDoor
namespace Go.Proofs.YtbnpgakmhhfjkaaGreatDoor
open Go.RowKit Rc
open Tr (Nm En T)
namespace Sn
variable {D:Nat→Prop} {w w':World} {p:Nat} {av lv:Value} {els:List (Value × Value)} {s:Snaps}
def STurn (p:Nat) (s':Snaps) (x:Value) (B:Nat→Prop) (w:World) (e:Ending) (w':World):Prop :=
 e=.returned x∧∃ av lv els D,SnIn p av lv els D s' w'∧Mod w w' B∧∀ b,SnS p av D b→B b∨w.heap.size≤b
theorem NewT.one {t:T} {q:Nat} {w0 w:World} (h:NewT t q w0 w):∃ B,Tm.One1 (.pointer (some ⟨q,0,none⟩)) w0 t B w:=by
 obtain ⟨av,gs,S,h1,h2,h3⟩:=h
 exact ⟨Tm.TrS q av S,h1.at_,Mod.of_below h3 _,fun b hb=>.inr (h2 b hb),h3,h2⟩
set_option maxHeartbeats 4000000 in
set_option maxRecDepth 100000 in
theorem forget_any (h:SnIn p av lv els D s w) (hO:Ok s) (id:Int) (now:Nat):Calls Tryz.prog 52 #[.pointer (some ⟨p,0,none⟩),.int .i64 id,.int .u64 (now:Nat)] w (STurn p (forget s id now).2 (.int .i64 ((forget s id now).1:Nat)) (SnS p av D) w):=by
 have H:=Lib.hid h
 have HO:=Lib.hid hO
 have HG:=Lib.hid (get_any id h hO)
 clear h hO
 go_enter Tryz.func52,Tryz.ntmps52
 go_wp2_with fail
 refine HG.out.mono ?_
 rintro r w1 (⟨x,q,hx,hxi,rfl,hT⟩|⟨hno,rfl,hb⟩)
 ·have HB1:Hid (Below w.heap.size w w1):=by obtain ⟨_,_,_,_,_,h3⟩:=hT;exact h3
  obtain ⟨Bt,h1⟩:=hT.one
  have HBD:=Lib.hid (Wo.bound_any h1 (HO.out.tree x hx).1 now)
  have HX:Hid (x ∈ s.all∧x.id=id):=⟨hx,hxi⟩
  clear hx hxi hT h1 HG
  obtain ⟨bk,hbk⟩:∃ bk,bk=decide (0<(Wo.live x.tree now).length):=⟨_,rfl⟩
  rw [← hbk] at HBD
  have HK:Hid (bk=decide (0<(Wo.live x.tree now).length)):=hbk
  clear hbk
  go_wp2_with fail
  refine HBD.out.mono ?_
  rintro r w2 ⟨rfl,hb2⟩
  have HB2:Hid (Below w.heap.size w w2):=HB1.out.trans (hb2.mono HB1.out.size)
  clear hb2 HBD HB1
  cases bk with
  | true =>
    have HF:Hid (forget s id now=(28,s)):=by
     have h1:0<(Wo.live x.tree now).length:=of_decide_eq_true HK.out.symm
     show _=_
     rw [← HX.out.2]
     exact forget_kept HO.out.rise HX.out.1 h1
    go_wp2_with fail
    go_ret
    rw [HF.out]
    exact ⟨rfl,av,lv,els,D,H.out.below HB2.out,Mod.of_below HB2.out _,fun b hb=>.inl hb⟩
  | false =>
    have HFIND:=Lib.hid (find_any (H.out.below HB2.out) HO.out.few id)
    go_wp2_with fail
    refine HFIND.out.mono ?_
    rintro r w3 ⟨k,rfl,hat,hb3⟩
    have HB3:Hid (Below w.heap.size w w3):=HB2.out.trans (hb3.mono HB2.out.size)
    clear hb3 HFIND HB2
    rcases hat with ⟨j,y,hy,hyi,_,rfl⟩|⟨_,hno⟩
    ·have hjl:j<s.all.length:=(List.getElem?_eq_some_iff.1 hy).1
     have hyx:y=x:=by
      have h1:=find_at HO.out.rise (List.mem_of_getElem? hy)
      have h2:=find_at HO.out.rise HX.out.1
      rw [hyi] at h1
      rw [HX.out.2] at h2
      exact Option.some.inj (h1.symm.trans h2)
     subst hyx
     have HF:Hid (forget s id now=(0,⟨s.all.take j++s.all.drop (j+1),s.next,s.last⟩)):=by
      have h1:¬ 0<(Wo.live y.tree now).length:=of_decide_eq_false HK.out.symm
      show _=_
      rw [← HX.out.2]
      exact forget_gone HO.out.rise hy h1
     have H3:=Lib.hid (H.out.below HB3.out)
     have c0:w3.cell? ⟨p,0,none⟩=some av:=H3.out.box.cell 0
     obtain ⟨A,c,hav,hc,hg⟩:=Tm.own_form H3.out.row
     obtain ⟨g,rfl,hgo,-,-,-⟩:=hg (by omega)
     have HDEL:=Lib.hid (del_any (xs:=snCells s.all els) (hav ▸ H3.out.row) hjl HO.out.few (snCells_one H3.out))
     have HPG:Hid (p≠g∧av.ownBlock=some g):=⟨by obtain ⟨_,_,cs,hb⟩:=Tm.own_blk H3.out.row hgo;exact H3.out.box.ne_ hb (by decide),hgo⟩
     have HAV:=Lib.hid hav
     obtain ⟨n,hn⟩:∃ n,n=s.all.length:=⟨_,rfl⟩
     have HN:=Lib.hid hn
     rw [hav,← hn] at c0
     rw [← hn] at HDEL hc hjl
     have hn8:n≤8:=by rw [hn];exact HO.out.few
     clear hy hyi hav hn hgo hg
     go_wp2_with fail
     refine HDEL.out.mono ?_
     rintro r w4 ⟨rfl,hrow,hk⟩
     have HB4:Hid (Blk w4 p 135 [av,.int .i64 s.next,lv]):=(hk.block p H3.out.box.lt fun e=>HPG.out.1 (by injection e)).trans H3.out.box
     have c4:w4.cell? ⟨p,0,none⟩=some av:=HB4.out.cell 0
     have f4:w4.frozen? ⟨p,0,none⟩=false:=HB4.out.frozen 0
     have HK4:Hid (Keeps w3 w4 g):=hk
     have HR4:=Lib.hid hrow
     rw [HAV.out] at c4
     clear hk hrow HDEL
     go_wp2_with fail
     go_ret
     rw [HF.out]
     obtain ⟨hpg,hav1⟩:=HPG.out
     have hn:=HN.out
     have hnl:(s.all.take j++s.all.drop (j+1)).length=n-1:=by
      simp only [List.length_append,List.length_take,List.length_drop];omega
     have hne:∀ b,b≠p→b≠g→b<w3.heap.size→(w4.setCell ⟨p,0,none⟩ (.slice (some ⟨g,0,none⟩) (n-1) c)).heap[b]?=w3.heap[b]?:=fun b h1 h2 h3=>(Below.heap_setCell w4 ⟨p,0,none⟩ _ b h1).trans (HK4.out.block b h3 fun e=>h2 (by injection e))
     have hsz:(w4.setCell ⟨p,0,none⟩ (.slice (some ⟨g,0,none⟩) (n-1) c)).heap.size=w4.heap.size:=by first|exact World.size_setCell _ _ _|simp [World.setCell]
     refine ⟨rfl,.slice (some ⟨g,0,none⟩) (n-1) c,lv,els.take j++els.drop (j+1),D,H3.out.less (HB4.out.set_ 0 _) ?_ ?_ ?_ ?_,?_,fun b hb=>?_⟩
     ·rw [hnl]
      refine Tm.own_keep HR4.out fun b hb=>Below.heap_setCell w4 ⟨p,0,none⟩ _ b ?_
      obtain rfl:g=b:=by simpa [Value.ownBlock] using hb
      exact fun e=>hpg e.symm
     ·rw [hsz];exact HK4.out.size
     ·exact fun b hb=>hne b (H3.out.low b hb).2.1 (fun e=>(H3.out.low b hb).2.2 (by rw [hav1,e])) (H3.out.low b hb).1
     ·rw [hav1];rfl
     ·have hb3:=HB3.out
      refine ⟨HK4.out.os.trans hb3.os,HK4.out.tape.trans hb3.tape,HK4.out.output.trans hb3.output,by rw [hsz];exact Nat.le_trans hb3.size HK4.out.size,fun b hb hnb=>(hne b (fun e=>hnb (.inl e)) (fun e=>hnb (.inr (.inl (by rw [hav1,e])))) (Nat.lt_of_lt_of_le hb hb3.size)).trans (hb3.block b hb)⟩
     ·rcases hb with rfl|hb|hb
      ·exact .inl (.inl rfl)
      ·exact .inl (.inr (.inl (by rw [hav1,← hb];rfl)))
      ·exact .inl (.inr (.inr hb))
    ·exact absurd HX.out.2 (hno x HX.out.1)
 ·have HF:=Lib.hid (forget_none now hno)
  have HB:=Lib.hid hb
  clear hno hb
  go_wp2_with fail
  go_ret
  rw [HF.out]
  exact ⟨rfl,av,lv,els,D,H.out.below HB.out,Mod.of_below HB.out _,fun b hb=>.inl hb⟩
end Sn
end Go.Proofs.YtbnpgakmhhfjkaaGreatDoor
