/-
  OWN WORK. BaBig, CpClone, TrRow, TrMem, TrEnt, PtGood, PtNames, TrWay, TrAt, NoRight, BaCell, CpSaid
-/
import Derived.Test.YtbnpgakmhhfjkaaGreatDoorO01
import Derived.Test.YtbnpgakmhhfjkaaGreatDoorO02
import Derived.Lib.SliceRun
import Derived.Test.YtbnpgakmhhfjkaaGreatDoorO03
import Derived.Lib.AppendZerosOnto
import Derived.Lib.Overlaps
import Derived.Laws.Externs
import Derived.Deep.RegionWith
import Derived.BigRegion
import Derived.Laws.ResultCell
namespace Go.Proofs.YtbnpgakmhhfjkaaGreatDoor
open Go.RowKit
theorem run_append_big {P:Program} (w:World) (base:Nat) (t ty e:TypeId) (i:TypeInfo) (ht:P.underlying t=some (.slice e)) (hi:P.info? e=some i) (hz:i.zero=some (.int .u8 0)) (hsize:i.size=1) (hby:i.bytes=1)
    (v:Value) (n:Nat) (xs:List Value) (hown:w.ownsRow base e 1 v n xs) (A:Option Addr) (l:List UInt8) (c:Nat) (hr:Rd w A l) (hn:n+l.length≤140737488355328) (hbase:base≤w.heap.size) :
    ∃ v' w',(Builtin.append_ #[t,t] ty #[v,.slice A l.length c]).run P w=.ok v' w'∧w'.ownsRow base e 1 v' (n+l.length) (xs++Lib.byteCells l)∧w.grownBy w' v.ownBlock:=by
 cases A with
 | none =>
   have hl:l=[]:=by
    rcases Nat.eq_zero_or_pos l.length with h|h
    ·exact List.eq_nil_of_length_eq_zero h
    ·obtain ⟨b,off,h1,_⟩:=hr h
     cases h1
   subst hl
   refine ⟨v,w,?_,by simpa [Lib.byteCells] using hown,⟨rfl,rfl,rfl,Nat.le_refl _,fun _ _ _=>rfl⟩⟩
   show (Builtin.append_ #[t,t] ty #[v,.slice none 0 c]).run P w=.ok v w
   rcases hown.2 with ⟨rfl,rfl⟩|⟨g,cap,cur,rfl,_,_,hnc,_⟩
   ·simp [Builtin.append_,run_underlying ht,sizeOf,typeInfo,hi,Builtin.lenOf,Builtin.firstCells]
   ·simp [Builtin.append_,run_underlying ht,sizeOf,typeInfo,hi,Builtin.lenOf,Builtin.firstCells,hnc,storeCells]
 | some ad =>
   have hc:∀ j u,(Lib.byteCells l)[j]?=some u→w.cell? (ad.add j)=some u:=by
    intro j u hu
    simp only [Lib.byteCells,List.getElem?_map,Option.map_eq_some_iff] at hu
    obtain ⟨x,hx,rfl⟩:=hu
    obtain ⟨b,off,h1,_,h2⟩:=hr (by have:=(List.getElem?_eq_some_iff.1 hx).1;omega)
    obtain rfl:ad=⟨b,off,none⟩:=by injection h1
    rw [add_plain]
    exact h2 j x hx
   obtain ⟨v',w',h1,h2,h3,_⟩:=run_append_own (P:=P) (w:=w) base t ty e i (.int .u8 0) 1 1 ht hi hz hsize hby rfl (by decide) v n xs hown ad l.length c (Lib.byteCells l) (by simp [Lib.byteCells_length]) hc (bytes_one l) (by unfold maxLen;omega) (by omega) hbase
   exact ⟨v',w',h1,h2,h3⟩
theorem wpList_append_big {P:Program} {w:World} {ops:Array Oper} {rest:List Oper} {o:Oper} {a:Act} {Q:Exit→Act→World→Prop} (hgd:o.guard=none) (s x:Operand) (t:TypeId)
    (ho:o.op=.call { callee:=.builtin .append,args:=#[s,x],argTypes:=#[t,t] })
    (base:Nat) (e:TypeId) (i:TypeInfo) (ht:P.underlying t=some (.slice e)) (hi:P.info? e=some i) (hz:i.zero=some (.int .u8 0)) (hsize:i.size=1) (hby:i.bytes=1)
    (v:Value) (n:Nat) (xs:List Value) (hs:a.eval s=v) (hown:w.ownsRow base e 1 v n xs) (A:Option Addr) (l:List UInt8) (m c:Nat) (hm:l.length=m) (hx:a.eval x=.slice A m c) (hr:Rd w A l) (hn:n+l.length≤140737488355328) (hbase:base≤w.heap.size)
    (h:∀ v' w',Hid (w'.ownsRow base e 1 v' (n+l.length) (xs++Lib.byteCells l))→Hid (w.grownBy w' v.ownBlock)→wpList P ops Q rest (a.put o.dst v') w'):wpList P ops Q (o :: rest) a w:=by
 subst hm
 refine wpList_plain hgd fun K hK=>?_
 obtain ⟨v',w',hrun,h1,h2⟩:=run_append_big w base t o.type e i ht hi hz hsize hby v n xs hown A l c hr hn hbase
 unfold Oper.wp
 simp [execOp,ho,resolve,invoke,builtin,hs,hx,hrun,Result.andThen]
 exact hK _ _ (h v' w' h1 h2)
end Go.Proofs.YtbnpgakmhhfjkaaGreatDoor
namespace Go.Proofs.YtbnpgakmhhfjkaaGreatDoor
open Go.RowKit Rc
set_option maxHeartbeats 1000000 in
set_option maxRecDepth 100000 in
theorem clone_any (w:World) (A:Option Addr) (x:List UInt8) (cap:Nat) (hr:Rd w A x) (hx:x.length≤140737488355328) :
    Calls Tryz.prog 65 #[.slice A x.length cap] w fun e w'=>∃ v,e=.returned v∧w'.ownsRow w.heap.size 5 1 v x.length (Lib.byteCells x)∧Below w.heap.size w w':=by
 have q22:∀ (w:World) (a:Option Addr) (n c n' c':Nat),(binOp .eql 23 (.slice a n c) (.slice none n' c')).run Tryz.prog w=.ok (.bool a.isNone) w:=fun w a n c n' c'=>Lib.run_eql_slice_nil w _ _ a n c n' c' Tryz.underlying23
 cases A with
 | none =>
   obtain rfl:x=[]:=by
    rcases Nat.eq_zero_or_pos x.length with h|h
    ·exact List.eq_nil_of_length_eq_zero h
    ·obtain ⟨b,off,h1,_⟩:=hr h
     cases h1
   go_enter Tryz.func65,Tryz.ntmps65
   go_wp2_with fail
   go_ret
   exact ⟨_,rfl,own_nil _ _,Below.refl _ _⟩
 | some ad =>
   obtain ⟨i0,hi,hz0,hz1,hz2⟩:=info_parts Tryz.infoU8
   have HI0:=Lib.hid hi
   have HZ0:=Lib.hid hz0
   have HZ1:=Lib.hid hz1
   have HZ2:=Lib.hid hz2
   have H0:Hid (MAt w.heap.size (.slice (some ⟨w.heap.size,0,none⟩) 0 0) [] w (w.alloc (.cells #[] 5))):=MAt.empty w
   have HRW:Hid (Rd (w.alloc (.cells #[] 5)) (some ad) x):=hr.below (below_new w _)
   clear hi hz0 hz1 hz2 hr
   go_enter Tryz.func65,Tryz.ntmps65
   go_wp2_with (at_builtin;refine wpList_append_big rfl (.tmp 5) (.tmp 6) 23 rfl w.heap.size 5 i0 Tryz.underlying23 HI0.out HZ0.out HZ1.out HZ2.out _ 0 [] rfl H0.out.1 (some ad) x x.length cap rfl rfl HRW.out (by omega) (by rw [World.size_alloc];omega) ?_;intro v1 w1 HO1 HG1;have H1:Hid (MAt w.heap.size v1 x w w1):=H0.out.push (Below.refl _ _) HO1.out HG1.out)
   clear HO1 HG1
   go_ret
   exact ⟨_,rfl,H1.out.1,H1.out.2.1⟩
theorem wpList_append_at_rd {P:Program} {w:World} {ops:Array Oper} {rest:List Oper} {o:Oper} {a:Act} {Q:Exit→Act→World→Prop} (hgd:o.guard=none) (s x:Operand) (t:TypeId)
    (ho:o.op=.call { callee:=.builtin .append,args:=#[s,x],argTypes:=#[t,t] })
    (base:Nat) (e:TypeId) (i:TypeInfo) (ht:P.underlying t=some (.slice e)) (hi:P.info? e=some i) (hz:i.zero=some (.int .u8 0)) (hsize:i.size=1) (hby:i.bytes=1)
    (v:Value) (n:Nat) (xs:List Value) (hs:a.eval s=v) (hown:w.ownsRow base e 1 v n xs) (A:Option Addr) (l:List UInt8) (m c:Nat) (hm:l.length=m) (hx:a.eval x=.slice A m c) (hr:Rd w A l) (hn:n+l.length≤1099511627776) (hbase:base≤w.heap.size)
    (h:∀ v' w',Hid (w'.ownsRow base e 1 v' (n+l.length) (xs++Lib.byteCells l))→Hid (w.grownBy w' v.ownBlock)→Hid (v'.ownBlock=v.ownBlock∨v'.ownBlock=some w.heap.size)→wpList P ops Q rest (a.put o.dst v') w'):wpList P ops Q (o :: rest) a w :=
 wpList_plain hgd fun _ hK=>wp_append_at s x t ho base e i ht hi hz hsize hby v n xs hs hown A l m c hm hx hr hn hbase fun v' w' h1 h2 h3=>hK _ _ (h v' w' h1 h2 h3)
theorem step_append_rd {P:Program} {ops:Array Oper} {o:Oper} {a:Act} {w:World} {K:Act→World→Prop} {Q:Exit→Act→World→Prop} {E:Prop} (hgd:o.guard=none) (s x:Operand) (t:TypeId)
    (ho:o.op=.call { callee:=.builtin .append,args:=#[s,x],argTypes:=#[t,t] })
    (base:Nat) (e:TypeId) (i:TypeInfo) (ht:P.underlying t=some (.slice e)) (hi:P.info? e=some i) (hz:i.zero=some (.int .u8 0)) (hsize:i.size=1) (hby:i.bytes=1)
    (v:Value) (n:Nat) (xs:List Value) (hs:a.eval s=v) (hown:w.ownsRow base e 1 v n xs) (A:Option Addr) (l:List UInt8) (m c:Nat) (hm:l.length=m) (hx:a.eval x=.slice A m c) (hr:Rd w A l) (hn:n+l.length≤1099511627776) (hbase:base≤w.heap.size)
    (h:∀ v' w',Hid (w'.ownsRow base e 1 v' (n+l.length) (xs++Lib.byteCells l))→Hid (w.grownBy w' v.ownBlock)→Hid (v'.ownBlock=v.ownBlock∨v'.ownBlock=some w.heap.size)→K (a.put o.dst v') w') :
    if Region.wanted o (yielded ops a.tmps)=true then Oper.wp P o a w K Q else E:=by
 rw [if_pos (show Region.wanted o (yielded ops a.tmps)=true by simp [Region.wanted,hgd])]
 exact wp_append_at s x t ho base e i ht hi hz hsize hby v n xs hs hown A l m c hm hx hr hn hbase h
end Go.Proofs.YtbnpgakmhhfjkaaGreatDoor
namespace Go.Proofs.YtbnpgakmhhfjkaaGreatDoor
open Go.RowKit
/-! Rows of elements of k cells. -/
theorem run_copy_k {P:Program} (w:World) (dT sT ty elem:TypeId) (k:Nat) (hu:P.underlying dT=some (.slice elem)) (hsz:(P.info? elem).map (·.size)=some k)
    (g o dLen dCap:Nat) (ad:Addr) (sLen sCap:Nat) (cur:List Value) (t:TypeId) (hg:Blk w g t cur) (cs:List Value) (n:Nat) (hn:n=Nat.min sLen dLen) (hl:cs.length=n*k)
    (hsrc:∀ j v,cs[j]?=some v→w.cell? (ad.add j)=some v) (hfit:o+cs.length≤cur.length) (h1:∀ v ∈ cs,v.oneCell'=true) :
    ∃ w',(Builtin.copy_ #[dT,sT] ty #[.slice (some ⟨g,o,none⟩) dLen dCap,.slice (some ad) sLen sCap]).run P w=.ok (goInt n) w'∧Blk w' g t (splice cur o cs)∧Keeps w w' g:=by
 have hld:=run_firstCells_some (P:=P) w k n ad sLen sCap cs hl hsrc
 have hst:=run_storeCells_at P g o t cs 0 cur.toArray w hg (by simpa using hfit) h1
 refine ⟨w.setRow g (cur.toArray.toList.take o++cs++cur.toArray.toList.drop (o+cs.length)).toArray,?_,?_,(Keeps.refl w g).setRow _⟩
 ·cases hq:P.info? elem with
  | none=>simp [hq] at hsz
  | some i =>
    have hi:i.size=k:=by simpa [hq] using hsz
    subst hi
    simp [Builtin.copy_,run_underlying hu,Builtin.lenOf,sizeOf,typeInfo,hq,← hn,hld,hst]
 ·have e:cur.toArray.toList.take o++cs++cur.toArray.toList.drop (o+cs.length)=splice cur o cs:=by simp [splice]
  rw [e]
  exact hg.row _
theorem run_clear_k {P:Program} (w:World) (t0 elem ty:TypeId) (z:Value) (ht:P.underlying t0=some (.slice elem)) (hz:(zeroValue elem).run P w=.ok z w)
    (g o n cap:Nat) (cur:List Value) (t:TypeId) (hg:Blk w g t cur) (hfit:o+n*z.cells.size≤cur.length) (h1:∀ v ∈ z.cells.toList,v.oneCell'=true) :
    ∃ w' cs,(Builtin.clear_ #[t0] ty #[.slice (some ⟨g,o,none⟩) n cap]).run P w=.ok (.tuple #[]) w'∧Blk w' g t (splice cur o cs)∧Keeps w w' g∧cs.length=n*z.cells.size:=by
 cases n with
 | zero=>exact ⟨w,[],by simp [Builtin.clear_,run_underlying ht],by simpa [splice] using hg,Keeps.refl w g,by simp⟩
 | succ m =>
   obtain ⟨cs,hcs⟩:∃ cs,cs=(Builtin.zeroCells z.cells (m+1)).toList:=⟨_,rfl⟩
   have hl:cs.length=(m+1)*z.cells.size:=by rw [hcs];simp [Builtin.zeroCells]
   have hone:∀ v ∈ cs,v.oneCell'=true:=by
    intro v hv
    rw [hcs] at hv
    simp only [Builtin.zeroCells,Array.toList_map,List.mem_map,Array.toList_range,List.mem_range] at hv
    obtain ⟨i,hi,rfl⟩:=hv
    have hz0:0<z.cells.size:=by
     rcases Nat.eq_zero_or_pos z.cells.size with h|h
     ·rw [h] at hi;omega
     ·exact h
    have hs:=Nat.mod_lt i hz0
    refine h1 _ ?_
    rw [getElem!_pos z.cells (i % z.cells.size) hs]
    exact Array.getElem_mem_toList hs
   have hst:=run_storeCells_at P g o t cs 0 cur.toArray w hg (by rw [hl];simpa using hfit) hone
   refine ⟨w.setRow g (cur.toArray.toList.take o++cs++cur.toArray.toList.drop (o+cs.length)).toArray,cs,?_,?_,(Keeps.refl w g).setRow _,hl⟩
   ·simp [Builtin.clear_,run_underlying ht,hz,← hcs,hst]
   ·have e:cur.toArray.toList.take o++cs++cur.toArray.toList.drop (o+cs.length)=splice cur o cs:=by simp [splice]
    rw [e]
    exact hg.row _
/-! What an insertion does to a row. -/
theorem splice_length {α:Type} (L:List α) (o:Nat) (cs:List α) (h:o+cs.length≤L.length):(splice L o cs).length=L.length:=by
 unfold splice
 rw [List.length_append,List.length_append,List.length_take,List.length_drop];omega
theorem splice_take {α:Type} (L:List α) (o:Nat) (cs:List α) (h:o≤L.length):(splice L o cs).take o=L.take o:=by
 unfold splice
 rw [List.take_append_of_le_length (by rw [List.length_take];omega),List.take_take,Nat.min_self]
theorem splice_cut {α:Type} (L:List α) (o:Nat) (cs:List α) (h:o≤L.length):(splice L o cs).drop o=cs++L.drop (o+cs.length):=by
 unfold splice
 rw [List.drop_append_of_le_length (by rw [List.length_take];omega),List.drop_eq_nil_of_le (by rw [List.length_take];omega),List.nil_append]
theorem ins_row {α:Type} (cur xs ys:List α) (a k N:Nat) (hx:cur.take N=xs) (hN:N+k≤cur.length) (ha:a≤N) (hy:ys.length=k) :
    (splice (splice cur (a+k) (xs.drop a)) a ys).length=cur.length∧(splice (splice cur (a+k) (xs.drop a)) a ys).take (N+k)=xs.take a++(ys++xs.drop a):=by
 have hxl:xs.length=N:=by rw [← hx,List.length_take];omega
 have hdl:(xs.drop a).length=N-a:=by rw [List.length_drop,hxl]
 have l1:=splice_length cur (a+k) (xs.drop a) (by rw [hdl];omega)
 refine ⟨by rw [splice_length _ _ _ (by rw [l1,hy];omega),l1],?_⟩
 have e1:(splice cur (a+k) (xs.drop a)).take a=xs.take a:=by
  have h:=splice_take cur (a+k) (xs.drop a) (by omega)
  have h2:=congrArg (List.take a) h
  rw [List.take_take,List.take_take,Nat.min_eq_left (by omega)] at h2
  rw [h2,← hx,List.take_take,Nat.min_eq_left ha]
 have e2:(splice cur (a+k) (xs.drop a)).drop (a+ys.length)=xs.drop a++cur.drop (N+k):=by
  rw [hy,splice_cut _ _ _ (by omega),hdl]
  congr 2;omega
 have e3:splice (splice cur (a+k) (xs.drop a)) a ys=xs.take a++(ys++(xs.drop a++cur.drop (N+k))):=by
  unfold splice at e1 e2 ⊢
  rw [e1,e2]
 rw [e3,← List.append_assoc,← List.append_assoc,← List.append_assoc,List.take_append_of_le_length (by simp only [List.length_append,List.length_take,hdl,hy,hxl];omega),List.take_of_length_le (by simp only [List.length_append,List.length_take,hdl,hy,hxl];omega),List.append_assoc]
theorem ins_new {α:Type} (cur xs ys:List α) (a k N:Nat) (hxl:xs.length=N) (hx:cur.take a=xs.take a) (hN:N+k≤cur.length) (ha:a≤N) (hy:ys.length=k) :
    (splice (splice cur a ys) (a+k) (xs.drop a)).length=cur.length∧(splice (splice cur a ys) (a+k) (xs.drop a)).take (N+k)=xs.take a++(ys++xs.drop a):=by
 have hdl:(xs.drop a).length=N-a:=by rw [List.length_drop,hxl]
 have l1:=splice_length cur a ys (by rw [hy];omega)
 refine ⟨by rw [splice_length _ _ _ (by rw [l1,hdl];omega),l1],?_⟩
 have e1:(splice cur a ys).take (a+k)=xs.take a++ys:=by
  unfold splice
  rw [← List.append_assoc,List.take_append_of_le_length (by rw [List.length_append,List.length_take,hy];omega),List.take_of_length_le (by rw [List.length_append,List.length_take,hy];omega),hx]
 have e2:(splice (splice cur a ys) (a+k) (xs.drop a))=(xs.take a++ys)++(xs.drop a++(splice cur a ys).drop (a+k+(xs.drop a).length)):=by
  conv=>lhs;unfold splice
  rw [show List.take a cur++(ys++List.drop (a+ys.length) cur)=splice cur a ys from rfl,e1]
 rw [e2,← List.append_assoc,List.take_append_of_le_length (by simp only [List.length_append,List.length_take,hdl,hy,hxl];omega),List.take_of_length_le (by simp only [List.length_append,List.length_take,hdl,hy,hxl];omega),List.append_assoc]
end Go.Proofs.YtbnpgakmhhfjkaaGreatDoor
namespace Go.Proofs.YtbnpgakmhhfjkaaGreatDoor
open Go.RowKit Rc
open Tr (Nm En T)
namespace Tm
/-! Own rows of whatever elements. -/
theorem own_low {w:World} {B e k n:Nat} {v:Value} {xs:List Value} (h:w.ownsRow B e k v n xs):w.ownsRow 0 e k v n xs:=own_mono h (Nat.zero_le _)
theorem own_blk {w:World} {B e k n:Nat} {v:Value} {xs:List Value} (h:w.ownsRow B e k v n xs) {b:Nat} (hb:v.ownBlock=some b):B≤b∧b<w.heap.size∧∃ cs,Blk w b e cs:=by
 rcases h.2 with ⟨rfl,_⟩|⟨g,cap,cur,rfl,h1,h2,_⟩
 ·cases hb
 ·obtain rfl:g=b:=by simpa [Value.ownBlock] using hb
  exact ⟨h1,(Array.getElem?_eq_some_iff.1 h2).1,cur.toList,by simpa [Blk] using h2⟩
theorem own_keep {w w':World} {B e k n:Nat} {v:Value} {xs:List Value} (h:w.ownsRow B e k v n xs) (hb:∀ b,v.ownBlock=some b→w'.heap[b]?=w.heap[b]?):w'.ownsRow B e k v n xs:=by
 refine ⟨h.1,?_⟩
 rcases h.2 with h2|⟨g,cap,cur,rfl,h3,h4,h5⟩
 ·exact .inl h2
 ·exact .inr ⟨g,cap,cur,rfl,h3,(hb g rfl).trans h4,h5⟩
theorem own_form {w:World} {B e k n:Nat} {v:Value} {xs:List Value} (h:w.ownsRow B e k v n xs):∃ A c,v=.slice A n c∧n≤c∧(0<n→∃ g,A=some ⟨g,0,none⟩∧v.ownBlock=some g∧B≤g∧g<w.heap.size∧∀ j x,xs[j]?=some x→w.cell? ⟨g,j,none⟩=some x):=by
 rcases h.2 with ⟨rfl,rfl⟩|⟨g,cap,cur,rfl,h1,h2,h3,h4,h5,h6⟩
 ·exact ⟨none,0,rfl,Nat.le_refl _,fun h=>absurd h (by omega)⟩
 ·refine ⟨_,cap,rfl,h3,fun hn=>⟨g,rfl,rfl,h1,(Array.getElem?_eq_some_iff.1 h2).1,fun j x hx=>?_⟩⟩
  rw [cell_of_row w g j cur e (0,0) h2]
  rw [← h6] at hx
  rw [List.getElem?_take] at hx
  split at hx
  ·simpa using hx
  ·cases hx
/-! Names. -/
def nmCells (l:List Nm):List Value:=l.flatMap fun n=>[.string (strOf n.1),.int .i64 n.2]
theorem nmCells_cons (n:Nm) (l:List Nm):nmCells (n :: l)=.string (strOf n.1) :: .int .i64 n.2 :: nmCells l:=rfl
theorem nmCells_append (a b:List Nm):nmCells (a++b)=nmCells a++nmCells b:=by simp [nmCells]
theorem nmCells_take (l:List Nm):∀ i,nmCells (l.take i)=(nmCells l).take (i*2):=by
 induction l with
 | nil=>intro i;simp [nmCells]
 | cons n l ih =>
   intro i
   cases i with
   | zero=>simp [nmCells]
   | succ i =>
     rw [List.take_succ_cons,nmCells_cons,nmCells_cons,ih,show (i+1)*2=i*2+1+1 by omega,List.take_succ_cons,List.take_succ_cons]
theorem nmCells_drop (l:List Nm):∀ i,nmCells (l.drop i)=(nmCells l).drop (i*2):=by
 induction l with
 | nil=>intro i;simp [nmCells]
 | cons n l ih =>
   intro i
   cases i with
   | zero=>simp
   | succ i =>
     rw [List.drop_succ_cons,nmCells_cons,ih,show (i+1)*2=i*2+1+1 by omega,List.drop_succ_cons,List.drop_succ_cons]
theorem nmCells_get {l:List Nm} {j:Nat} {n:Nm} (h:l[j]?=some n):(nmCells l)[j*2]?=some (.string (strOf n.1))∧(nmCells l)[j*2+1]?=some (.int .i64 n.2):=by
 induction l generalizing j with
 | nil=>simp at h
 | cons m l ih =>
   rw [nmCells_cons]
   cases j with
   | zero =>
     obtain rfl:m=n:=by simpa using h
     exact ⟨rfl,rfl⟩
   | succ j =>
     have:=ih (j:=j) (by simpa using h)
     rw [show (j+1)*2=j*2+1+1 by omega]
     simpa using this
theorem nmCells_one (l:List Nm):∀ v ∈ nmCells l,v.oneCell'=true:=by
 intro v hv
 simp only [nmCells,List.mem_flatMap] at hv
 obtain ⟨x,_,hx⟩:=hv
 simp at hx
 rcases hx with rfl|rfl <;> rfl
def NOwn (w:World) (B:Nat) (v:Value) (l:List Nm):Prop:=w.ownsRow B 116 2 v l.length (nmCells l)
theorem NOwn.nil (w:World) (B:Nat):NOwn w B (.slice none 0 0) []:=⟨rfl,.inl ⟨rfl,rfl⟩⟩
theorem NOwn.form {w:World} {B:Nat} {v:Value} {l:List Nm} (h:NOwn w B v l):∃ A c,v=.slice A l.length c∧l.length≤c∧(0<l.length→∃ g,A=some ⟨g,0,none⟩∧v.ownBlock=some g∧B≤g∧g<w.heap.size∧∀ j n,l[j]?=some n→w.cell? ⟨g,j*2,none⟩=some (.string (strOf n.1))∧w.cell? ⟨g,j*2+1,none⟩=some (.int .i64 n.2)):=by
 obtain ⟨A,c,h1,h2,h3⟩:=own_form h
 refine ⟨A,c,h1,h2,fun hl=>?_⟩
 obtain ⟨g,h4,h5,h6,h7,h8⟩:=h3 hl
 exact ⟨g,h4,h5,h6,h7,fun j n hj=>⟨h8 _ _ (nmCells_get hj).1,h8 _ _ (nmCells_get hj).2⟩⟩
/-! A node. -/
def enCells (e:En) (dv nv:Value):List Value:=[.int .i64 e.nd.id,.int .i64 e.nd.kind,.int .i64 e.nd.links,.int .i64 e.nd.size,.int .u64 (e.nd.till:Nat),.bool e.nd.shut,dv,nv]
def EnS (g:Nat) (dv nv:Value):Nat→Prop:=fun b=>b=g∨dv.ownBlock=some b∨nv.ownBlock=some b
structure EIn (g:Nat) (dv nv:Value) (e:En) (w:World):Prop where
 box:Blk w g 94 (enCells e dv nv)
 data:w.ownsRow 0 5 1 dv e.data.length (Lib.byteCells e.data)
 names:NOwn w 0 nv e.names
def EAt (g:Nat) (e:En) (S:Nat→Prop) (w:World):Prop:=∃ dv nv,EIn g dv nv e w∧S=EnS g dv nv
theorem EIn.at_ {g:Nat} {dv nv:Value} {e:En} {w:World} (h:EIn g dv nv e w):EAt g e (EnS g dv nv) w:=⟨dv,nv,h,rfl⟩
theorem EIn.keep {g:Nat} {dv nv:Value} {e:En} {w w':World} (h:EIn g dv nv e w) (hb:∀ b,EnS g dv nv b→w'.heap[b]?=w.heap[b]?):EIn g dv nv e w' :=
 ⟨(hb g (.inl rfl)).trans h.box,own_keep h.data fun b h1=>hb b (.inr (.inl h1)),own_keep h.names fun b h1=>hb b (.inr (.inr h1))⟩
theorem EIn.kind {g:Nat} {dv nv:Value} {e:En} {w:World} (h:EIn g dv nv e w) {b:Nat} (hb:EnS g dv nv b):b<w.heap.size∧∃ t cs,Blk w b t cs∧(t=94∨t=5∨t=116):=by
 rcases hb with rfl|hb|hb
 ·exact ⟨h.box.lt,_,_,h.box,.inl rfl⟩
 ·obtain ⟨_,h1,cs,h2⟩:=own_blk h.data hb
  exact ⟨h1,_,cs,h2,.inr (.inl rfl)⟩
 ·obtain ⟨_,h1,cs,h2⟩:=own_blk h.names hb
  exact ⟨h1,_,cs,h2,.inr (.inr rfl)⟩
theorem EAt.keep {g:Nat} {e:En} {S:Nat→Prop} {w w':World} (h:EAt g e S w) (hb:∀ b,S b→w'.heap[b]?=w.heap[b]?):EAt g e S w':=by
 obtain ⟨dv,nv,h1,rfl⟩:=h
 exact ⟨dv,nv,h1.keep hb,rfl⟩
theorem EAt.kind {g:Nat} {e:En} {S:Nat→Prop} {w:World} (h:EAt g e S w) {b:Nat} (hb:S b):b<w.heap.size∧∃ t cs,Blk w b t cs∧(t=94∨t=5∨t=116):=by
 obtain ⟨dv,nv,h1,rfl⟩:=h
 exact h1.kind hb
theorem EAt.self {g:Nat} {e:En} {S:Nat→Prop} {w:World} (h:EAt g e S w):S g:=by
 obtain ⟨dv,nv,h1,rfl⟩:=h
 exact .inl rfl
theorem EAt.cells {g:Nat} {e:En} {S:Nat→Prop} {w:World} (h:EAt g e S w):w.cell? ⟨g,0,none⟩=some (.int .i64 e.nd.id)∧w.cell? ⟨g,1,none⟩=some (.int .i64 e.nd.kind)∧w.cell? ⟨g,2,none⟩=some (.int .i64 e.nd.links)∧w.cell? ⟨g,3,none⟩=some (.int .i64 e.nd.size)∧w.cell? ⟨g,4,none⟩=some (.int .u64 (e.nd.till:Nat))∧w.cell? ⟨g,5,none⟩=some (.bool e.nd.shut):=by
 obtain ⟨dv,nv,h1,rfl⟩:=h
 exact ⟨h1.box.cell 0,h1.box.cell 1,h1.box.cell 2,h1.box.cell 3,h1.box.cell 4,h1.box.cell 5⟩
/-! Nodes, apart from one another. -/
def EsAt:List Nat→T→(Nat→Prop)→World→Prop
 | [],[],S,_=>∀ b,¬ S b
 | g :: gs,e :: t,S,w=>∃ S1 S2,EAt g e S1 w∧EsAt gs t S2 w∧(∀ b,S1 b→¬ S2 b)∧(∀ b,S b↔S1 b∨S2 b)
 | _,_,_,_=>False
theorem EsAt.len:∀ {gs:List Nat} {t:T} {S:Nat→Prop} {w:World},EsAt gs t S w→gs.length=t.length
 | [],[],_,_,_=>rfl
 | _ :: _,_ :: _,_,_,⟨_,_,_,h,_⟩=>by simp [EsAt.len h]
 | [],_ :: _,_,_,h=>h.elim
 | _ :: _,[],_,_,h=>h.elim
theorem EsAt.keep:∀ {gs:List Nat} {t:T} {S:Nat→Prop} {w w':World},EsAt gs t S w→(∀ b,S b→w'.heap[b]?=w.heap[b]?)→EsAt gs t S w'
 | [],[],_,_,_,h,_=>h
 | _ :: _,_ :: _,_,_,_,⟨S1,S2,h1,h2,h3,h4⟩,hb=>⟨S1,S2,h1.keep fun b h=>hb b ((h4 b).2 (.inl h)),EsAt.keep h2 fun b h=>hb b ((h4 b).2 (.inr h)),h3,h4⟩
 | [],_ :: _,_,_,_,h,_=>h.elim
 | _ :: _,[],_,_,_,h,_=>h.elim
theorem EsAt.kind:∀ {gs:List Nat} {t:T} {S:Nat→Prop} {w:World},EsAt gs t S w→∀ {b:Nat},S b→b<w.heap.size∧∃ t cs,Blk w b t cs∧(t=94∨t=5∨t=116)
 | [],[],_,_,h,b,hb=>absurd hb (h b)
 | _ :: _,_ :: _,_,_,⟨S1,S2,h1,h2,h3,h4⟩,b,hb=>((h4 b).1 hb).elim (fun h=>h1.kind h) (fun h=>EsAt.kind h2 h)
 | [],_ :: _,_,_,h,_,_=>h.elim
 | _ :: _,[],_,_,h,_,_=>h.elim
theorem EsAt.same:∀ {gs:List Nat} {t:T} {S S':Nat→Prop} {w:World},EsAt gs t S w→(∀ b,S b↔S' b)→EsAt gs t S' w
 | [],[],_,_,_,h,hS=>fun b hb=>h b ((hS b).2 hb)
 | _ :: _,_ :: _,_,_,_,⟨S1,S2,h1,h2,h3,h4⟩,hS=>⟨S1,S2,h1,h2,h3,fun b=>(hS b).symm.trans (h4 b)⟩
 | [],_ :: _,_,_,_,h,_=>h.elim
 | _ :: _,[],_,_,_,h,_=>h.elim
theorem EsAt.app:∀ {ga gb:List Nat} {A B:T} {SA SB:Nat→Prop} {w:World},EsAt ga A SA w→EsAt gb B SB w→(∀ b,SA b→¬ SB b)→EsAt (ga++gb) (A++B) (fun b=>SA b∨SB b) w
 | [],_,[],_,_,_,_,h,k,_=>k.same fun b=>⟨.inr,fun h1=>h1.elim (fun h2=>absurd h2 (h b)) id⟩
 | _ :: _,_,_ :: _,_,_,SB,_,⟨S1,S2,h1,h2,h3,h4⟩,k,hd =>
   ⟨S1,fun b=>S2 b∨SB b,h1,EsAt.app h2 k fun b h=>hd b ((h4 b).2 (.inr h)),fun b h=>fun h5=>h5.elim (h3 b h) (hd b ((h4 b).2 (.inl h))),fun b=>by
    constructor
    ·rintro (h|h)
     ·exact ((h4 b).1 h).elim .inl fun h=>.inr (.inl h)
     ·exact .inr (.inr h)
    ·rintro (h|h|h)
     ·exact .inl ((h4 b).2 (.inl h))
     ·exact .inl ((h4 b).2 (.inr h))
     ·exact .inr h⟩
 | [],_,_ :: _,_,_,_,_,h,_,_=>h.elim
 | _ :: _,_,[],_,_,_,_,h,_,_=>h.elim
theorem EsAt.split:∀ {A B:T} {gs:List Nat} {S:Nat→Prop} {w:World},EsAt gs (A++B) S w→∃ ga gb SA SB,gs=ga++gb∧EsAt ga A SA w∧EsAt gb B SB w∧(∀ b,SA b→¬ SB b)∧(∀ b,S b↔SA b∨SB b)
 | [],_,gs,S,_,h=>⟨[],gs,fun _=>False,S,rfl,fun _ h=>h,h,fun _ h=>h.elim,fun b=>⟨.inr,fun h=>h.elim False.elim id⟩⟩
 | e :: A,B,g :: gs,S,w,⟨S1,S2,h1,h2,h3,h4⟩=>by
   obtain ⟨ga,gb,SA,SB,rfl,h5,h6,h7,h8⟩:=EsAt.split h2
   refine ⟨g :: ga,gb,fun b=>S1 b∨SA b,SB,rfl,⟨S1,SA,h1,h5,fun b hb hA=>h3 b hb ((h8 b).2 (.inl hA)),fun b=>Iff.rfl⟩,h6,fun b hb hB=>?_,fun b=>?_⟩
   ·rcases hb with hb|hb
    ·exact h3 b hb ((h8 b).2 (.inr hB))
    ·exact h7 b hb hB
   ·rw [h4,h8,or_assoc]
 | _ :: _,_,[],_,_,h=>h.elim
theorem EsAt.mid {A B:T} {e:En} {gs:List Nat} {S:Nat→Prop} {w:World} (h:EsAt gs (A++e :: B) S w):∃ ga g gb S1,gs=ga++g :: gb∧ga.length=A.length∧EAt g e S1 w∧(∀ b,S1 b→S b) ∧
    (∀ w' e' S1',EAt g e' S1' w'→Mod w w' S1→(∀ b,S1' b→S1 b∨w.heap.size≤b)→∃ S',EsAt gs (A++e' :: B) S' w'∧∀ b,S' b→S b∨w.heap.size≤b):=by
 obtain ⟨ga,gb,SA,SB,rfl,h1,h2,h3,h4⟩:=h.split
 cases gb with
 | nil=>exact h2.elim
 | cons g gb =>
   obtain ⟨S1,S2,h5,h6,h7,h8⟩:=h2
   refine ⟨ga,g,gb,S1,rfl,h1.len,h5,fun b hb=>(h4 b).2 (.inr ((h8 b).2 (.inl hb))),fun w' e' S1' k1 k2 k3=>?_⟩
   have kA:EsAt ga A SA w':=h1.keep fun b hb=>k2.block b (h1.kind hb).1 fun h9=>h3 b hb ((h8 b).2 (.inl h9))
   have kB:EsAt gb B S2 w':=h6.keep fun b hb=>k2.block b (h6.kind hb).1 fun h9=>h7 b h9 hb
   have kE:EsAt (g :: gb) (e' :: B) (fun b=>S1' b∨S2 b) w':=⟨S1',S2,k1,kB,fun b hb h9=>(k3 b hb).elim (fun h=>h7 b h h9) (fun h=>by have:=(h6.kind h9).1;omega),fun b=>Iff.rfl⟩
   refine ⟨_,kA.app kE fun b hb h9=>?_,fun b hb=>?_⟩
   ·rcases h9 with h9|h9
    ·rcases k3 b h9 with h|h
     ·exact h3 b hb ((h8 b).2 (.inl h))
     ·have:=(h1.kind hb).1;omega
    ·exact h3 b hb ((h8 b).2 (.inr h9))
   ·rcases hb with hb|hb|hb
    ·exact .inl ((h4 b).2 (.inl hb))
    ·exact (k3 b hb).imp (fun h=>(h4 b).2 (.inr ((h8 b).2 (.inl h)))) id
    ·exact .inl ((h4 b).2 (.inr ((h8 b).2 (.inr hb))))
theorem EsAt.into {A B:T} {e:En} {gs:List Nat} {S S1:Nat→Prop} {g:Nat} {w:World} (h:EsAt gs (A++B) S w) (he:EAt g e S1 w) (hd:∀ b,S b→¬ S1 b):∃ ga gb S',gs=ga++gb∧ga.length=A.length∧EsAt (ga++g :: gb) (A++e :: B) S' w∧∀ b,S' b↔S b∨S1 b:=by
 obtain ⟨ga,gb,SA,SB,rfl,h1,h2,h3,h4⟩:=h.split
 have k:EsAt (g :: gb) (e :: B) (fun b=>S1 b∨SB b) w:=⟨S1,SB,he,h2,fun b hb h9=>hd b ((h4 b).2 (.inr h9)) hb,fun b=>Iff.rfl⟩
 refine ⟨ga,gb,_,rfl,h1.len,h1.app k fun b hb h9=>?_,fun b=>?_⟩
 ·exact h9.elim (hd b ((h4 b).2 (.inl hb))) (h3 b hb)
 ·rw [h4]
  constructor
  ·rintro (h|h|h)
   ·exact .inl (.inl h)
   ·exact .inr h
   ·exact .inl (.inr h)
  ·rintro ((h|h)|h)
   ·exact .inl h
   ·exact .inr (.inr h)
   ·exact .inr (.inl h)
def ptrOf:List Nat→T→Int→Value
 | g :: gs,e :: t,i=>if e.nd.id=i then .pointer (some ⟨g,0,none⟩) else ptrOf gs t i
 | _,_,_=>.pointer none
theorem ptrOf_none:∀ {gs:List Nat} {t:T} {i:Int},(∀ e ∈ t,e.nd.id≠i)→ptrOf gs t i=.pointer none
 | [],[],_,_=>rfl
 | [],_ :: _,_,_=>rfl
 | _ :: _,[],_,_=>rfl
 | g :: gs,e :: t,i,h=>by
   unfold ptrOf
   rw [if_neg (h e (.head _))]
   exact ptrOf_none fun m hm=>h m (.tail _ hm)
theorem ptrOf_mid:∀ {ga gb:List Nat} {g:Nat} {A B:T} {e:En} {i:Int},ga.length=A.length→(∀ a ∈ A,a.nd.id≠i)→e.nd.id=i→ptrOf (ga++g :: gb) (A++e :: B) i=.pointer (some ⟨g,0,none⟩)
 | [],_,_,[],_,_,_,_,_,he=>by show (if _ then _ else _)=_;rw [if_pos he]
 | _ :: _,_,_,a :: _,_,_,_,hl,hA,he=>by
   show (if _ then _ else _)=_
   rw [if_neg (hA a (.head _))]
   exact ptrOf_mid (by simpa using hl) (fun x hx=>hA x (.tail _ hx)) he
/-! The tree. -/
def ptrCells (gs:List Nat):List Value:=gs.map fun g=>.pointer (some ⟨g,0,none⟩)
theorem ptrCells_append (a b:List Nat):ptrCells (a++b)=ptrCells a++ptrCells b:=List.map_append
theorem ptrCells_take (l:List Nat) (i:Nat):ptrCells (l.take i)=(ptrCells l).take i:=List.map_take
theorem ptrCells_drop (l:List Nat) (i:Nat):ptrCells (l.drop i)=(ptrCells l).drop i:=List.map_drop
def TrS (p:Nat) (av:Value) (S:Nat→Prop):Nat→Prop:=fun b=>b=p∨av.ownBlock=some b∨S b
structure TIn (p:Nat) (av:Value) (gs:List Nat) (S:Nat→Prop) (t:T) (w:World):Prop where
 box:Blk w p 113 [av]
 row:w.ownsRow 0 90 1 av gs.length (ptrCells gs)
 each:EsAt gs t S w
def TAt (v:Value) (t:T) (S:Nat→Prop) (w:World):Prop:=∃ p av gs S0,v=.pointer (some ⟨p,0,none⟩)∧TIn p av gs S0 t w∧S=TrS p av S0
theorem TIn.at_ {p:Nat} {av:Value} {gs:List Nat} {S:Nat→Prop} {t:T} {w:World} (h:TIn p av gs S t w):TAt (.pointer (some ⟨p,0,none⟩)) t (TrS p av S) w:=⟨p,av,gs,S,rfl,h,rfl⟩
theorem TIn.keep {p:Nat} {av:Value} {gs:List Nat} {S:Nat→Prop} {t:T} {w w':World} (h:TIn p av gs S t w) (hb:∀ b,TrS p av S b→w'.heap[b]?=w.heap[b]?):TIn p av gs S t w' :=
 ⟨(hb p (.inl rfl)).trans h.box,own_keep h.row fun b h1=>hb b (.inr (.inl h1)),h.each.keep fun b h1=>hb b (.inr (.inr h1))⟩
theorem TIn.lt {p:Nat} {av:Value} {gs:List Nat} {S:Nat→Prop} {t:T} {w:World} (h:TIn p av gs S t w) {b:Nat} (hb:TrS p av S b):b<w.heap.size:=by
 rcases hb with rfl|hb|hb
 ·exact h.box.lt
 ·exact (own_blk h.row hb).2.1
 ·exact (h.each.kind hb).1
theorem TIn.below {p:Nat} {av:Value} {gs:List Nat} {S:Nat→Prop} {t:T} {w w':World} (h:TIn p av gs S t w) (hb:Below w.heap.size w w'):TIn p av gs S t w':=h.keep fun b hb1=>hb.block b (h.lt hb1)
def tobj:Ob.Obj T where
 At:=TAt
 keep:=by
  rintro v s S w w' ⟨p,av,gs,S0,rfl,h,rfl⟩ _ hb
  exact ⟨p,av,gs,S0,rfl,h.keep hb,rfl⟩
 lt:=by
  rintro v s S w ⟨p,av,gs,S0,rfl,h,rfl⟩ b hb
  exact h.lt hb
 ptr:=by
  rintro v s S w ⟨p,av,gs,S0,rfl,h,rfl⟩
  exact ⟨_,rfl⟩
theorem TIn.apart {p:Nat} {av:Value} {gs:List Nat} {S:Nat→Prop} {t:T} {w:World} (h:TIn p av gs S t w):¬ S p∧(∀ b,av.ownBlock=some b→¬ S b∧b≠p):=by
 have key:∀ {b:Nat} {ty:TypeId} {cs:List Value},Blk w b ty cs→S b→ty=94∨ty=5∨ty=116:=by
  intro b ty cs h1 h2
  obtain ⟨_,t2,cs2,h3,h4⟩:=h.each.kind h2
  have e:ty=t2:=by
   unfold Blk at h1 h3
   rw [h1] at h3
   injection h3 with h3
   injection h3
  rw [e];exact h4
 refine ⟨fun hS=>by have:=key h.box hS;revert this;decide,fun b hb=>⟨fun hS=>?_,?_⟩⟩
 ·obtain ⟨_,_,cs,h1⟩:=own_blk h.row hb
  have:=key h1 hS
  revert this;decide
 ·obtain ⟨_,_,cs,h1⟩:=own_blk h.row hb
  exact h1.ne_ h.box (by decide)
theorem TIn.turn {p:Nat} {av:Value} {gs:List Nat} {S:Nat→Prop} {A B:T} {e:En} {w:World} (h:TIn p av gs S (A++e :: B) w):∃ ga g gb S1,gs=ga++g :: gb∧ga.length=A.length∧EAt g e S1 w∧(∀ b,S1 b→S b) ∧
    (∀ w' e' S1',EAt g e' S1' w'→Mod w w' S1→(∀ b,S1' b→S1 b∨w.heap.size≤b)→∃ S',TIn p av gs S' (A++e' :: B) w'∧Mod w w' (TrS p av S)∧∀ b,TrS p av S' b→TrS p av S b∨w.heap.size≤b):=by
 obtain ⟨ga,g,gb,S1,h1,h2,h3,h4,h5⟩:=h.each.mid
 refine ⟨ga,g,gb,S1,h1,h2,h3,h4,fun w' e' S1' k1 k2 k3=>?_⟩
 obtain ⟨S',h6,h7⟩:=h5 w' e' S1' k1 k2 k3
 have hap:=h.apart
 refine ⟨S',⟨(k2.block p h.box.lt fun h9=>hap.1 (h4 _ h9)).trans h.box,own_keep h.row fun b hb=>k2.block b (own_blk h.row hb).2.1 fun h9=>(hap.2 b hb).1 (h4 _ h9),h6⟩,k2.mono fun b _ hb=>.inr (.inr (h4 b hb)),fun b hb=>?_⟩
 rcases hb with rfl|hb|hb
 ·exact .inl (.inl rfl)
 ·exact .inl (.inr (.inl hb))
 ·exact (h7 b hb).imp (fun h=>.inr (.inr h)) id
end Tm
end Go.Proofs.YtbnpgakmhhfjkaaGreatDoor
namespace Go.Proofs.YtbnpgakmhhfjkaaGreatDoor
open Go.RowKit Rc
open Tr (Nm En T)
namespace Tm
set_option maxHeartbeats 1000000 in
set_option maxRecDepth 100000 in
theorem fresh_any (w:World) (id kind:Int) :
    Calls Tryz.prog 88 #[.int .i64 id,.int .i64 kind] w fun e w'=>∃ g,e=.returned (.pointer (some ⟨g,0,none⟩))∧EIn g (.slice none 0 0) (.slice none 0 0) (Tr.fresh id kind) w'∧g=w.heap.size∧Below w.heap.size w w':=by
 obtain ⟨b,hb⟩:∃ b,b=(kind==2):=⟨_,rfl⟩
 have HB:=Lib.hid hb
 have h2:(kind==2)=b:=hb.symm
 clear hb
 go_enter Tryz.func88,Tryz.ntmps88
 go_wp2_with fail
 go_ret
 refine ⟨_,rfl,⟨?_,⟨rfl,.inl ⟨rfl,rfl⟩⟩,NOwn.nil _ _⟩,rfl,below_new w _⟩
 have h:=Blk.new w 94 (enCells (Tr.fresh id kind) (.slice none 0 0) (.slice none 0 0))
 unfold enCells Tr.fresh at h ⊢
 rw [← HB.out] at h ⊢
 exact h
theorem ptrOf_drop {gs:List Nat} {t:T} {i:Int} {j:Nat} (hl:gs.length=t.length) (hn:∀ e ∈ t.take j,e.nd.id≠i):ptrOf gs t i=ptrOf (gs.drop j) (t.drop j) i:=by
 induction j generalizing gs t with
 | zero=>rfl
 | succ j ih =>
   cases gs with
   | nil=>cases t with
     | nil=>rfl
     | cons e t=>simp at hl
   | cons g gs=>cases t with
     | nil=>simp at hl
     | cons e t =>
       rw [List.take_succ_cons] at hn
       rw [List.drop_succ_cons,List.drop_succ_cons,← ih (by simpa using hl) fun m hm=>hn m (.tail _ hm)]
       show (if _ then _ else _)=_
       rw [if_neg (hn e (.head _))]
theorem EsAt.get:∀ {gs:List Nat} {t:T} {S:Nat→Prop} {w:World},EsAt gs t S w→∀ {j:Nat} {e:En},t[j]?=some e→∃ g S1,gs[j]?=some g∧EAt g e S1 w∧∀ b,S1 b→S b
 | [],[],_,_,_,_,_,h=>by simp at h
 | g :: gs,e :: t,_,_,⟨S1,S2,h1,h2,h3,h4⟩,0,e',h=>by
   obtain rfl:e=e':=by simpa using h
   exact ⟨g,S1,rfl,h1,fun b hb=>(h4 b).2 (.inl hb)⟩
 | g :: gs,e :: t,_,_,⟨S1,S2,h1,h2,h3,h4⟩,j+1,e',h=>by
   obtain ⟨g',S',k1,k2,k3⟩:=EsAt.get h2 (j:=j) (by simpa using h)
   exact ⟨g',S',by simpa using k1,k2,fun b hb=>(h4 b).2 (.inr (k3 b hb))⟩
 | [],_ :: _,_,_,h,_,_,_=>h.elim
 | _ :: _,[],_,_,h,_,_,_=>h.elim
set_option maxHeartbeats 1000000 in
set_option maxRecDepth 100000 in
theorem find_any {p:Nat} {av:Value} {gs:List Nat} {S:Nat→Prop} {t:T} {w:World} (h:TIn p av gs S t w) (i:Int) (hlt:t.length≤1000000000) :
    Calls Tryz.prog 56 #[.pointer (some ⟨p,0,none⟩),.int .i64 i] w fun e w'=>e=.returned (ptrOf gs t i)∧w'=w:=by
 have H:=Lib.hid h
 have c0:w.cell? ⟨p,0,none⟩=some av:=h.box.cell 0
 have hl:=h.each.len
 obtain ⟨A,c,rfl,hc,hA⟩:=own_form h.row
 have HA:=Lib.hid hA
 have HL:=Lib.hid hl
 have HLT:=Lib.hid hlt
 have hg9:gs.length≤1000000000:=by omega
 clear h hA hl hlt
 go_enter Tryz.func56,Tryz.ntmps56
 go_wp2_with fail
 go_loopw [6,12] (fun t6 t12 wr=>∃ (j:Nat) (v6:Value),t6=v6∧t12=.int .i64 j∧j≤gs.length∧Hid (∀ e ∈ t.take j,e.nd.id≠i)∧wr=w) (fun _ t12 _=>gs.length-(match t12 with|.int _ k=>k.toNat|_=>0))
 case atStart=>exact ⟨0,_,rfl,rfl,Nat.zero_le _,fun e he=>by simp at he,rfl⟩
 case round =>
  obtain ⟨j,v6,rfl,rfl,hj,HN,rfl⟩:=hrel
  by_cases hk:j<gs.length
  ·obtain ⟨e,he⟩:∃ e,t[j]?=some e:=⟨_,List.getElem?_eq_getElem (by rw [← HL.out];exact hk)⟩
   obtain ⟨g,S1,hg,hE,_⟩:=H.out.each.get he
   obtain ⟨q,rfl,_,_,_,hcell⟩:=HA.out (by omega)
   have c1:wr.cell? ⟨q,j,none⟩=some (.pointer (some ⟨g,0,none⟩)):=hcell j _ (by simp [ptrCells,hg])
   have c2:=hE.cells.1
   have hlt2:(j:Int)<(gs.length:Int):=by omega
   have HE:=Lib.hid he
   have HG:=Lib.hid hg
   clear he hg hE hcell
   by_cases hi:e.nd.id=i
   ·have HP:Hid (ptrOf gs t i=.pointer (some ⟨g,0,none⟩)):=by
     show _=_
     rw [ptrOf_drop HL.out HN.out,List.drop_eq_getElem_cons hk,List.drop_eq_getElem_cons (show j<t.length by have:=HL.out;omega),(List.getElem?_eq_some_iff.1 HG.out).2,(List.getElem?_eq_some_iff.1 HE.out).2]
     show (if _ then _ else _)=_
     rw [if_pos hi]
    have hb:(e.nd.id==i)=true:=by simpa using hi
    clear hi
    go_wp2_with fail
    go_ret
    exact ⟨by rw [HP.out];rfl,rfl⟩
   ·have HN1:Hid (∀ e ∈ t.take (j+1),e.nd.id≠i):=fun m hm=>by
     rw [List.take_succ_eq_append_getElem (show j<t.length by have:=HL.out;omega),List.mem_append] at hm
     rcases hm with hm|hm
     ·exact HN.out m hm
     ·simp only [List.mem_singleton] at hm
      rw [hm,(List.getElem?_eq_some_iff.1 HE.out).2];exact hi
    have hb:(e.nd.id==i)=false:=by simpa using hi
    clear hi
    go_wp2_with fail
    go_roundw
    case rel=>exact ⟨j+1,_,rfl,by go_num,by omega,HN1.out,by first|rfl|trivial⟩
    case measure=>simp;omega
  ·obtain rfl:j=gs.length:=by omega
   have HP:Hid (ptrOf gs t i=.pointer none):=ptrOf_none fun m hm=>HN.out m (by rw [show gs.length=t.length from HL.out,List.take_length];exact hm)
   go_wp2_with fail
   go_ret
   exact ⟨by rw [HP.out];rfl,rfl⟩
theorem get_split {l:List Nm} {x:Bs} {j:Nat} {n:Nm} (hn:l[j]?=some n) (h:∀ m ∈ l.take j,m.1≠x) (he:n.1=x):Tr.get l x=some n.2:=by
 induction j generalizing l with
 | zero =>
   cases l with
   | nil=>simp at hn
   | cons m l =>
     obtain rfl:m=n:=by simpa using hn
     rw [Tr.get_cons,if_pos he]
 | succ j ih =>
   cases l with
   | nil=>simp at hn
   | cons m l =>
     rw [List.take_succ_cons] at h
     rw [Tr.get_cons,if_neg (h m (.head _))]
     exact ih (by simpa using hn) fun y hy=>h y (.tail _ hy)
def told (o:Option Int):Value:=.tuple #[.int .i64 (o.getD 0),.bool o.isSome]
set_option maxHeartbeats 1000000 in
set_option maxRecDepth 100000 in
theorem id_any {g:Nat} {e:En} {S:Nat→Prop} {w:World} (h:EAt g e S w) (x:Bs) (hlt:e.names.length≤1000000000) :
    Calls Tryz.prog 108 #[.pointer (some ⟨g,0,none⟩),.string (strOf x)] w fun r w'=>r=.returned (told (Tr.get e.names x))∧Below w.heap.size w w':=by
 obtain ⟨dv,nv,h,rfl⟩:=h
 have c0:w.cell? ⟨g,7,none⟩=some nv:=h.box.cell 7
 obtain ⟨A,c,rfl,hc,hA⟩:=h.names.form
 have HA:=Lib.hid hA
 clear h hA
 obtain ⟨l,hl⟩:∃ l,l=e.names:=⟨_,rfl⟩
 rw [← hl] at HA c0 hlt hc ⊢
 clear hl
 go_enter Tryz.func108,Tryz.ntmps108
 go_wp2_with fail
 go_loopw [7,13] (fun t7 t13 wr=>∃ (j:Nat) (v7:Value),t7=v7∧t13=.int .i64 j∧j≤l.length∧Hid (∀ m ∈ l.take j,m.1≠x)∧Hid (Below w.heap.size w wr)) (fun _ t13 _=>l.length-(match t13 with|.int _ k=>k.toNat|_=>0))
 case atStart=>exact ⟨0,_,rfl,rfl,Nat.zero_le _,fun e he=>by simp at he,Below.refl _ _⟩
 case round =>
  obtain ⟨j,v7,rfl,rfl,hj,HN,HB⟩:=hrel
  by_cases hk:j<l.length
  ·obtain ⟨n,hn⟩:∃ n,l[j]?=some n:=⟨_,List.getElem?_eq_getElem hk⟩
   obtain ⟨q,rfl,_,_,hql,hcell⟩:=HA.out (by omega)
   have c1:wr.cell? ⟨q,j*2,none⟩=some (.string (strOf n.1)):=(HB.out.cell (p:=⟨q,j*2,none⟩) hql).trans (hcell j n hn).1
   have c2:wr.cell? ⟨q,j*2+1,none⟩=some (.int .i64 n.2):=(HB.out.cell (p:=⟨q,j*2+1,none⟩) hql).trans (hcell j n hn).2
   have hlt2:(j:Int)<(l.length:Int):=by omega
   have HN2:=Lib.hid hn
   have HB2:Hid (Below w.heap.size w (wr.alloc (.cells #[.string (strOf n.1),.int .i64 n.2] 116))):=HB.out.alloc HB.out.size _
   clear hn hcell hql
   by_cases hi:n.1=x
   ·have HP:Hid (Tr.get l x=some n.2):=get_split HN2.out HN.out hi
    have hb:((strOf n.1).toList==(strOf x).toList)=true:=by rw [strOf_beq];exact decide_eq_true hi
    clear hi
    go_wp2_with fail
    go_ret2
    exact ⟨by rw [HP.out];rfl,HB2.out⟩
   ·have HN1:Hid (∀ m ∈ l.take (j+1),m.1≠x):=fun m hm=>by
     rw [List.take_succ_eq_append_getElem hk,List.mem_append] at hm
     rcases hm with hm|hm
     ·exact HN.out m hm
     ·simp only [List.mem_singleton] at hm
      rw [hm,(List.getElem?_eq_some_iff.1 HN2.out).2];exact hi
    have hb:((strOf n.1).toList==(strOf x).toList)=false:=by rw [strOf_beq];exact decide_eq_false hi
    clear hi
    go_wp2_with fail
    go_roundw
    case rel=>exact ⟨j+1,_,rfl,by go_num,by omega,HN1.out,HB2.out⟩
    case measure=>simp;omega
  ·obtain rfl:j=l.length:=by omega
   have HP:Hid (Tr.get l x=none):=Tr.get_none.2 fun m hm=>HN.out m (by rw [List.take_length];exact hm)
   go_wp2_with fail
   go_ret2
   exact ⟨by rw [HP.out];rfl,HB.out⟩
set_option maxHeartbeats 1000000 in
set_option maxRecDepth 100000 in
theorem has_any {g:Nat} {e:En} {S:Nat→Prop} {w:World} (h:EAt g e S w) (x:Bs) (hlt:e.names.length≤1000000000) :
    Calls Tryz.prog 86 #[.pointer (some ⟨g,0,none⟩),.string (strOf x)] w fun r w'=>r=.returned (.bool (Tr.get e.names x).isSome)∧Below w.heap.size w w':=by
 have HI:=Lib.hid (id_any h x hlt)
 obtain ⟨o,ho⟩:∃ o,o=Tr.get e.names x:=⟨_,rfl⟩
 rw [← ho] at HI ⊢
 clear ho h hlt
 go_enter Tryz.func86,Tryz.ntmps86
 go_wp2_with fail
 refine HI.out.mono ?_
 rintro r w1 ⟨rfl,hb⟩
 have HB:=Lib.hid hb
 clear hb
 unfold told
 go_wp2_with fail
 go_ret
 exact ⟨rfl,HB.out⟩
end Tm
end Go.Proofs.YtbnpgakmhhfjkaaGreatDoor
namespace Go.Proofs.YtbnpgakmhhfjkaaGreatDoor
open Go.RowKit
theorem usual_any (c:UInt8) (w:World):Calls Tryz.prog 178 #[.int .u8 (c.toNat:Nat)] w fun e w'=>e=.returned (.bool (Pa.okByte c))∧w=w':=by
 obtain ⟨n,hn⟩:∃ n,n=c.toNat:=⟨_,rfl⟩
 have hlt:n<256:=by rw [hn];exact c.toNat_lt
 have HB:Hid (Pa.okByte c=((decide (97≤n)&&decide (n≤122)) || (decide (48≤n)&&decide (n≤57)) || decide (n=46) || decide (n=45) || decide (n=95))):=by
  show _=_
  subst hn
  have e:∀ k:UInt8,(c==k)=decide (c.toNat=k.toNat):=fun k=>by
   by_cases h:c=k
   ·subst h;simp
   ·rw [beq_eq_false_iff_ne.2 h]
    exact (decide_eq_false fun h2=>h (UInt8.toNat_inj.1 h2)).symm
  unfold Pa.okByte
  rw [e,e,e]
  rfl
 rw [← hn]
 clear hn
 by_cases h1:n=46
 ·subst h1
  go_enter Tryz.func178,Tryz.ntmps178
  go_wp2
  all_goals go_ret;exact ⟨by rw [HB.out];rfl,rfl⟩
 by_cases h2:n=45
 ·subst h2
  go_enter Tryz.func178,Tryz.ntmps178
  go_wp2
  all_goals go_ret;exact ⟨by rw [HB.out];rfl,rfl⟩
 by_cases h3:n=95
 ·subst h3
  go_enter Tryz.func178,Tryz.ntmps178
  go_wp2
  all_goals go_ret;exact ⟨by rw [HB.out];rfl,rfl⟩
 have e1:((n:Int)==46)=false:=by simp;omega
 have e2:((n:Int)==45)=false:=by simp;omega
 have e3:((n:Int)==95)=false:=by simp;omega
 by_cases g1:97≤n <;> by_cases g2:n≤122 <;> by_cases g3:48≤n <;> by_cases g4:n≤57 <;> first
  | omega
  | (go_enter Tryz.func178,Tryz.ntmps178
     go_wp2
     all_goals go_ret;exact ⟨by rw [HB.out];(simp [g1,g2,g3,g4,h1,h2,h3] <;> omega),rfl⟩)
def Oks (l:Bs) (k:Nat):Prop:=k≤l.length∧∀ (j:Nat) (c:UInt8),j<k→l[j]?=some c→Pa.okByte c=true
theorem Oks.zero (l:Bs):Oks l 0:=⟨Nat.zero_le _,fun j _ hj=>absurd hj (Nat.not_lt_zero j)⟩
theorem Oks.step {l:Bs} {k:Nat} {c:UInt8} (h:Oks l k) (hk:l[k]?=some c) (hc:Pa.okByte c=true):Oks l (k+1):=by
 refine ⟨(List.getElem?_eq_some_iff.1 hk).1,fun j d hj hd=>?_⟩
 rcases Nat.lt_or_ge j k with h1|h1
 ·exact h.2 j d h1 hd
 ·obtain rfl:j=k:=by omega
  rw [hk] at hd
  cases hd
  exact hc
theorem Oks.all {l:Bs} (h:Oks l l.length):l.all Pa.okByte=true:=by
 rw [List.all_eq_true]
 intro c hc
 obtain ⟨j,hj,rfl⟩:=List.getElem_of_mem hc
 exact h.2 j _ hj (List.getElem?_eq_getElem hj)
theorem bad_at {l:Bs} {k:Nat} {c:UInt8} (hk:l[k]?=some c) (hc:Pa.okByte c=false):l.all Pa.okByte=false:=by
 rw [List.all_eq_false]
 exact ⟨c,List.mem_of_getElem? hk,by rw [hc];decide⟩
set_option maxHeartbeats 1000000 in
set_option maxRecDepth 100000 in
theorem good_any (l:Bs) (w:World) (hl:l.length≤9223372036854775807):Calls Tryz.prog 139 #[.string (strOf l)] w fun e w'=>e=.returned (.bool (Pa.good l))∧w=w':=by
 have e0:=strOf_size l
 have e1:=strOf_lit l [46]
 have e2:=strOf_lit l [46,46]
 by_cases h0:l=[]
 ·subst h0
  go_enter Tryz.func139,Tryz.ntmps139
  go_wp2
  go_ret
  exact ⟨rfl,rfl⟩
 have hp:0<l.length:=List.length_pos_iff.2 h0
 by_cases h16:16<l.length
 ·have HF:Hid (Pa.good l=false):=by
   show _=_
   unfold Pa.good
   rw [show decide (l.length≤16)=false from decide_eq_false (by omega)]
   simp
  go_enter Tryz.func139,Tryz.ntmps139
  go_wp2
  go_ret
  exact ⟨by rw [HF.out];rfl,rfl⟩
 by_cases h1:l=[46]
 ·subst h1
  go_enter Tryz.func139,Tryz.ntmps139
  go_wp2
  go_ret
  exact ⟨rfl,rfl⟩
 by_cases h2:l=[46,46]
 ·subst h2
  go_enter Tryz.func139,Tryz.ntmps139
  go_wp2
  go_ret
  exact ⟨rfl,rfl⟩
 have HG:Hid (Pa.good l=l.all Pa.okByte):=by
  show _=_
  unfold Pa.good
  rw [show decide (l.length≤16)=true from decide_eq_true (by omega),show decide (1≤l.length)=true from decide_eq_true hp,bne_iff_ne.2 h1,bne_iff_ne.2 h2]
  simp
 replace e1:((strOf l).toList==[46])=false:=by rw [e1,decide_eq_false h1]
 replace e2:((strOf l).toList==[46,46])=false:=by rw [e2,decide_eq_false h2]
 have hc0:((l.length:Int)==0)=false:=by simp;omega
 go_enter Tryz.func139,Tryz.ntmps139
 go_wp2
 go_loopw [22] (fun t22 wr=>∃ k:Nat,t22=.int .i64 k∧Hid (Oks l k)∧wr=w) (fun t22 _=>l.length-(match t22 with|.int _ k=>k.toNat|_=>0))
 case atStart=>exact ⟨0,rfl,Oks.zero l,rfl⟩
 case round =>
  obtain ⟨k,rfl,HO,rfl⟩:=hrel
  by_cases hk:k<l.length
  ·obtain ⟨c,hc⟩:∃ c,l[k]?=some c:=⟨_,List.getElem?_eq_getElem hk⟩
   have hix:=fun wx=>str_at hc wx
   have HC:=Lib.hid hc
   clear hc
   cases hok:Pa.okByte c with
   | true =>
     go_wp2_with (go_at_call 178;refine (usual_any c _).mono ?_;rintro e wx ⟨rfl,rfl⟩)
     go_roundw
     case rel=>exact ⟨k+1,rfl,HO.out.step HC.out hok,by first|rfl|trivial⟩
     case measure=>simp;omega
   | false =>
     have HF:Hid (Pa.good l=false):=HG.out.trans (bad_at HC.out hok)
     go_wp2_with (go_at_call 178;refine (usual_any c _).mono ?_;rintro e wx ⟨rfl,rfl⟩)
     go_ret
     exact ⟨by rw [HF.out];rfl,rfl⟩
  ·obtain rfl:k=l.length:=by have:=HO.out.1;omega
   have HF:Hid (Pa.good l=true):=HG.out.trans HO.out.all
   go_wp2
   go_ret
   exact ⟨by rw [HF.out];rfl,rfl⟩
end Go.Proofs.YtbnpgakmhhfjkaaGreatDoor
namespace Go.Proofs.YtbnpgakmhhfjkaaGreatDoor
open Go.RowKit
theorem take_snoc {α:Type} {l:List α} {k:Nat} {x:α} (h:l[k]?=some x):l.take (k+1)=l.take k++[x]:=by
 obtain ⟨hk,e⟩:=List.getElem?_eq_some_iff.1 h
 rw [List.take_succ_eq_append_getElem hk,e]
set_option maxHeartbeats 1000000 in
set_option maxRecDepth 100000 in
theorem cloneS_any (w:World) (A:Option Addr) (x:List Bs) (cap:Nat) (hr:RdS w A x) (hx:x.length≤68719476736) :
    Calls Tryz.prog 59 #[.slice A x.length cap] w fun e w'=>∃ v,e=.returned v∧TAt w.heap.size v x w w':=by
 have q22:∀ (w:World) (a:Option Addr) (n c n' c':Nat),(binOp .eql 29 (.slice a n c) (.slice none n' c')).run Tryz.prog w=.ok (.bool a.isNone) w:=fun w a n c n' c'=>Lib.run_eql_slice_nil w _ _ a n c n' c' Tryz.underlying29
 cases A with
 | none =>
   obtain rfl:x=[]:=by
    rcases Nat.eq_zero_or_pos x.length with h|h
    ·exact List.eq_nil_of_length_eq_zero h
    ·obtain ⟨b,off,h1,_⟩:=hr h
     cases h1
   go_enter Tryz.func59,Tryz.ntmps59
   go_wp2_with fail
   go_ret
   exact ⟨_,rfl,TAt.nil w⟩
 | some ad =>
   have H0:Hid (TAt w.heap.size (.slice (some ⟨w.heap.size,0,none⟩) 0 0) [] w (w.alloc (.cells #[] 9))):=TAt.empty w
   have HRW:Hid (RdS (w.alloc (.cells #[] 9)) (some ad) x):=hr.below (below_new w _)
   have HN:Hid (([]:List Bs).length+x.length≤68719476736):=by show 0+_≤_;omega
   clear hr
   go_enter Tryz.func59,Tryz.ntmps59
   go_wp2_with (at_builtin;refine wpList_append_txts rfl (.tmp 5) (.tmp 6) rfl rfl H0.out (Below.refl _ _) (some ad) x x.length cap rfl rfl HRW.out HN.out ?_;intro v1 w1 HO1 HG1)
   clear HG1
   go_ret
   exact ⟨_,rfl,HO1.out⟩
set_option maxHeartbeats 1000000 in
set_option maxRecDepth 100000 in
theorem within_names (w:World) (l o:List Bs) (A B:Option Addr) (c d:Nat) (hr:RdS w A l) (hs:RdS w B o) (_hl:l.length≤1000000) (ho:o.length≤1000000) :
    Calls Tryz.prog 107 #[.slice A l.length c,.slice B o.length d] w fun e w'=>e=.returned (.bool (decide (o=l.take o.length)))∧w=w':=by
 by_cases hgt:l.length<o.length
 ·have HF:Hid (decide (o=l.take o.length)=false):=decide_eq_false fun e=>by have:=congrArg List.length e;rw [List.length_take] at this;omega
  go_enter Tryz.func107,Tryz.ntmps107
  go_wp2
  go_ret
  exact ⟨by rw [HF.out];rfl,rfl⟩
 have HR:=Lib.hid hr
 have HS:=Lib.hid hs
 clear hr hs
 go_enter Tryz.func107,Tryz.ntmps107
 go_wp2
 go_loopw [14] (fun t14 wr=>∃ k:Nat,t14=.int .i64 k∧k≤o.length∧Hid (o.take k=l.take k)∧wr=w) (fun t14 _=>o.length-(match t14 with|.int _ k=>k.toNat|_=>0))
 case atStart=>exact ⟨0,rfl,Nat.zero_le _,rfl,rfl⟩
 case round =>
  obtain ⟨k,rfl,hko,HK,rfl⟩:=hrel
  by_cases hk:k<o.length
  ·obtain ⟨x,hx⟩:∃ x,o[k]?=some x:=⟨_,List.getElem?_eq_getElem hk⟩
   obtain ⟨y,hy⟩:∃ y,l[k]?=some y:=⟨_,List.getElem?_eq_getElem (by omega)⟩
   obtain ⟨b1,off1,rfl,hc1⟩:=HS.out.at_ hx
   obtain ⟨b2,off2,rfl,hc2⟩:=HR.out.at_ hy
   have HX:Hid (o.take (k+1)=o.take k++[x]∧l.take (k+1)=l.take k++[y]):=⟨take_snoc hx,take_snoc hy⟩
   have HXY:Hid (o[k]?=some x∧l[k]?=some y):=⟨hx,hy⟩
   clear hx hy
   by_cases he:y=x
   ·have e1:((strOf y).toList==(strOf x).toList)=true:=by rw [strOf_beq];exact decide_eq_true he
    go_wp2
    go_roundw
    case rel=>exact ⟨k+1,rfl,by omega,by show _=_;rw [HX.out.1,HX.out.2,HK.out,he],by first|rfl|trivial⟩
    case measure=>simp;omega
   ·have e1:((strOf y).toList==(strOf x).toList)=false:=by rw [strOf_beq];exact decide_eq_false he
    have HF:Hid (decide (o=l.take o.length)=false):=decide_eq_false fun e=>he (by
     have h1:=HXY.out.1
     rw [e,List.getElem?_take_of_lt hk,HXY.out.2] at h1
     exact Option.some.inj h1)
    go_wp2
    go_ret
    exact ⟨by rw [HF.out];rfl,rfl⟩
  ·obtain rfl:k=o.length:=by omega
   have HF:Hid (decide (o=l.take o.length)=true):=decide_eq_true (by have:=HK.out;rw [List.take_length] at this;exact this)
   go_wp2
   go_ret
   exact ⟨by rw [HF.out];rfl,rfl⟩
theorem parent_none (A:Option Addr) (cap:Nat) (w:World):Calls Tryz.prog 140 #[.slice A 0 cap] w fun e w'=>e=.returned (.tuple #[.slice none 0 0,.string (strOf []),.int .i64 1])∧w=w':=by
 go_enter Tryz.func140,Tryz.ntmps140
 go_wp2
 go_ret3
 exact ⟨rfl,rfl⟩
set_option maxHeartbeats 4000000 in
set_option maxRecDepth 100000 in
theorem parent_any (l q:List Bs) (x:Bs) (A:Option Addr) (cap:Nat) (w:World) (hr:RdS w A l) (hc:l.length≤cap) (hl:l.length≤68719476736) (hq:l=q++[x]) :
    Calls Tryz.prog 140 #[.slice A l.length cap] w fun e w'=>∃ X c,e=.returned (.tuple #[.slice X q.length c,.string (strOf x),.int .i64 0])∧q.length≤c∧RdS w' X q∧Below w.heap.size w w':=by
 have hlq:l.length=q.length+1:=by rw [hq,List.length_append];rfl
 have hlx:l[q.length]?=some x:=by rw [hq];simp
 obtain ⟨b,off,rfl,hblt,hh⟩:=hr (by omega)
 clear hh
 obtain ⟨b',off',e,hcell⟩:=hr.at_ hlx
 cases e
 have HRQ:Hid (∀ W,Below w.heap.size w W→RdS W (some ⟨b,off,none⟩) q):=fun W hW=>by
  have h:=(hr.below hW).take q.length
  have e:l.take q.length=q:=by rw [hq];simp
  rw [e] at h
  exact h
 have hsl:∀ W,(Instr.sliceAt 29 (.slice (some ⟨b,off,none⟩) l.length cap) none (some (.int .i64 q.length)) none).run Tryz.prog W=.ok (.slice (some ⟨b,off,none⟩) q.length cap) W:=fun W=>sls_h W _ _ cap q.length (by omega)
 have HC:Hid (∀ W,Below w.heap.size w W→W.cell? ⟨b,off+q.length,none⟩=some (.string (strOf x))):=fun W hW=>(hW.cell (p:=⟨b,off+q.length,none⟩) hblt).trans hcell
 have hlen0:((l.length:Int)==0)=false:=beq_eq_false_iff_ne.2 (by omega)
 have hqc:q.length≤cap:=by omega
 have hq2:(l.length:Int)-1=q.length:=by omega
 obtain ⟨n,hn⟩:∃ n,n=q.length:=⟨_,rfl⟩
 have HN:=Lib.hid hn
 have HLQ:=Lib.hid hlq
 have hqn:q.length≤68719476736:=by omega
 clear hr hq hlx hn hlq
 go_enter Tryz.func140,Tryz.ntmps140
 go_wp2_with fail
 have hcell0:=HC.out w (Below.refl _ _)
 go_region_with (go_at_call 59;refine (cloneS_any w.drew (some ⟨b,off,none⟩) q cap (HRQ.out _ (Below.refl _ w).drew) hqn).mono ?_;rintro e w1 ⟨v,rfl,hT⟩;have HT:=Lib.hid hT;have hcell1:=HC.out w1 (undrew hT.later);clear hT)
 all_goals
  go_wp2_with fail
  go_ret3
  obtain ⟨X,c,hv,hc,hr⟩:=HT.out.form
  exact ⟨X,c,by rw [← hv];rfl,hc,hr,undrew HT.out.later⟩
end Go.Proofs.YtbnpgakmhhfjkaaGreatDoor
namespace Go.Proofs.YtbnpgakmhhfjkaaGreatDoor
open Go.RowKit Rc
open Tr (Nm En T)
namespace Tm
def RdP (w:World) (A:Option Addr) (ps:List (List Bs)):Prop :=
 0<ps.length→∃ b off,A=some ⟨b,off,none⟩∧b<w.heap.size∧∀ j p,ps[j]?=some p→∃ X c,w.cell? ⟨b,off+j,none⟩=some (.slice X p.length c)∧p.length≤c∧RdS w X p
theorem rdP_one (w:World) (p:List Bs) (X:Option Addr) (c:Nat) (t:TypeId) (hc:p.length≤c) (hr:RdS w X p):RdP (w.alloc (.cells #[.slice X p.length c] t)) (some ⟨w.heap.size,0,none⟩) [p]:=by
 intro _
 refine ⟨_,_,rfl,by rw [World.size_alloc];omega,fun j q hj=>?_⟩
 have hj0:j=0:=by
  have:=(List.getElem?_eq_some_iff.1 hj).1
  simp at this;exact this
 subst hj0
 obtain rfl:p=q:=by simpa using hj
 exact ⟨X,c,(Blk.new w t [.slice X p.length c]).cell 0,hc,hr.below (below_new w _)⟩
theorem rdP_two (w:World) (p q:List Bs) (X Y:Option Addr) (c d:Nat) (t:TypeId) (hc:p.length≤c) (hr:RdS w X p) (hd:q.length≤d) (hs:RdS w Y q):RdP (w.alloc (.cells #[.slice X p.length c,.slice Y q.length d] t)) (some ⟨w.heap.size,0,none⟩) [p,q]:=by
 intro _
 refine ⟨_,_,rfl,by rw [World.size_alloc];omega,fun j r hj=>?_⟩
 have hb:=Blk.new w t [.slice X p.length c,.slice Y q.length d]
 rcases j with _|_|j
 ·obtain rfl:p=r:=by simpa using hj
  exact ⟨X,c,hb.cell 0,hc,hr.below (below_new w _)⟩
 ·obtain rfl:q=r:=by simpa using hj
  exact ⟨Y,d,hb.cell 1,hd,hs.below (below_new w _)⟩
 ·simp at hj
def formedL:List (List Bs)→Nat
 | []=>0
 | p :: ps=>if Tr.formed p≠0 then Tr.formed p else formedL ps
theorem formedL_drop {ps:List (List Bs)} {k:Nat} (h:∀ p ∈ ps.take k,Tr.formed p=0):formedL ps=formedL (ps.drop k):=by
 induction k generalizing ps with
 | zero=>rfl
 | succ k ih =>
   cases ps with
   | nil=>rfl
   | cons p ps =>
     rw [List.take_succ_cons] at h
     rw [List.drop_succ_cons,formedL,if_neg (by rw [h p (.head _)];simp),ih fun q hq=>h q (.tail _ hq)]
theorem formedL_at {ps:List (List Bs)} {k:Nat} {p:List Bs} (hp:ps[k]?=some p) (h:∀ p ∈ ps.take k,Tr.formed p=0) (hf:Tr.formed p≠0):formedL ps=Tr.formed p:=by
 rw [formedL_drop h,List.drop_eq_getElem_cons (List.getElem?_eq_some_iff.1 hp).1,(List.getElem?_eq_some_iff.1 hp).2,formedL,if_pos hf]
theorem take_all {α:Type} {l:List α} {k:Nat} {x:α} {P:α→Prop} (hx:l[k]?=some x) (h:∀ y ∈ l.take k,P y) (hp:P x):∀ y ∈ l.take (k+1),P y:=fun y hy=>by
 rw [List.take_succ_eq_append_getElem (List.getElem?_eq_some_iff.1 hx).1,List.mem_append] at hy
 rcases hy with hy|hy
 ·exact h y hy
 ·simp only [List.mem_singleton] at hy
  rw [hy,(List.getElem?_eq_some_iff.1 hx).2];exact hp
set_option maxHeartbeats 2000000 in
set_option maxRecDepth 100000 in
theorem formed_any (w:World) (A:Option Addr) (ps:List (List Bs)) (cap:Nat) (hr:RdP w A ps) (hl:ps.length≤1000000) (hs:∀ p ∈ ps,p.length≤1000000∧∀ s ∈ p,s.length≤9223372036854775807) :
    Calls Tryz.prog 84 #[.slice A ps.length cap] w fun e w'=>e=.returned (.int .i64 (formedL ps:Nat))∧w'=w:=by
 have HR:=Lib.hid hr
 have HS:=Lib.hid hs
 clear hr hs
 go_enter Tryz.func84,Tryz.ntmps84
 go_wp2_with fail
 go_loopw [4,6,9,13,14,15] (fun t4 t6 t9 t13 t14 t15 wr=>∃ (k:Nat) (v4 v6 v13 v14 v15:Value),t4=v4∧t6=v6∧t9=.int .i64 k∧t13=v13∧t14=v14∧t15=v15∧k≤ps.length∧Hid (∀ p ∈ ps.take k,Tr.formed p=0)∧wr=w) (fun _ _ t9 _ _ _ _=>ps.length-(match t9 with|.int _ k=>k.toNat|_=>0))
 case atStart=>exact ⟨0,_,_,_,_,_,rfl,rfl,rfl,rfl,rfl,rfl,Nat.zero_le _,fun e he=>by simp at he,rfl⟩
 case round =>
  obtain ⟨k,v4,v6,v13,v14,v15,rfl,rfl,rfl,rfl,rfl,rfl,hk1,HN,rfl⟩:=hrel
  by_cases hk:k<ps.length
  ·obtain ⟨p,hp⟩:∃ p,ps[k]?=some p:=⟨_,List.getElem?_eq_getElem hk⟩
   obtain ⟨b,off,rfl,_,hcell⟩:=HR.out (by omega)
   obtain ⟨X,c,c0,hpc,hrp⟩:=hcell k p hp
   have hlt:(k:Int)<(ps.length:Int):=by omega
   have HP:=Lib.hid hp
   have HRP:=Lib.hid hrp
   obtain ⟨hp1,hp2⟩:=HS.out p (List.mem_of_getElem? hp)
   have HP2:=Lib.hid hp2
   clear hp hrp hcell hp2
   go_wp2_with fail
   go_loopw [6,15] (fun t6 t15 wr2=>∃ (j:Nat) (v6:Value),t6=v6∧t15=.int .i64 j∧j≤p.length∧Hid (∀ s ∈ p.take j,Pa.good s=true)∧wr2=wr) (fun _ t15 _=>p.length-(match t15 with|.int _ k=>k.toNat|_=>0))
   case atStart=>exact ⟨0,_,rfl,rfl,Nat.zero_le _,fun e he=>by simp at he,rfl⟩
   case round =>
    obtain ⟨j,v6',rfl,rfl,hj,HG,rfl⟩:=hrel
    by_cases hjk:j<p.length
    ·obtain ⟨s,hs⟩:∃ s,p[j]?=some s:=⟨_,List.getElem?_eq_getElem hjk⟩
     obtain ⟨b2,off2,rfl,c1⟩:=HRP.out.at_ hs
     have hlt2:(j:Int)<(p.length:Int):=by omega
     have HSS:=Lib.hid hs
     have HGD:=Lib.hid (good_any s wr (HP2.out s (List.mem_of_getElem? hs)))
     clear hs
     go_wp2_with fail
     refine HGD.out.mono ?_
     rintro e w1 ⟨rfl,rfl⟩
     cases hg:Pa.good s
     ·have HF:Hid (formedL ps=12):=by
       have e:Tr.formed p=12:=by
        unfold Tr.formed
        rw [if_neg]
        intro h
        rw [List.all_eq_true] at h
        rw [h s (List.mem_of_getElem? HSS.out)] at hg
        cases hg
       show _=_
       rw [formedL_at HP.out HN.out (by rw [e];simp),e]
      go_wp2_with fail
      go_ret
      exact ⟨by rw [HF.out];rfl,rfl⟩
     ·have HG1:=Lib.hid (take_all HSS.out HG.out hg)
      go_wp2_with fail
      go_roundw
      case rel=>exact ⟨j+1,_,rfl,by go_num,by omega,HG1.out,by first|rfl|trivial⟩
      case measure=>simp;omega
    ·obtain rfl:j=p.length:=by omega
     have hall:p.all Pa.good=true:=by
      rw [List.all_eq_true]
      intro s hs
      exact HG.out s (by rw [List.take_length];exact hs)
     by_cases h8:8<p.length
     ·have HF:Hid (formedL ps=3):=by
       have e:Tr.formed p=3:=by unfold Tr.formed;rw [if_pos hall,if_pos h8]
       show _=_
       rw [formedL_at HP.out HN.out (by rw [e];simp),e]
      have h8i:(8:Int)<(p.length:Int):=by omega
      clear hall
      go_wp2_with fail
      go_ret
      exact ⟨by rw [HF.out];rfl,rfl⟩
     ·have HN1:=Lib.hid (take_all HP.out HN.out (show Tr.formed p=0 by unfold Tr.formed;rw [if_pos hall,if_neg h8]))
      have h8i:¬ (8:Int)<(p.length:Int):=by omega
      clear hall
      go_wp2_with fail
      go_roundw
      case rel=>exact ⟨k+1,_,_,_,_,_,rfl,rfl,by go_num,rfl,rfl,rfl,by omega,HN1.out,by first|rfl|trivial⟩
      case measure=>simp;omega
  ·obtain rfl:k=ps.length:=by omega
   have HF:Hid (formedL ps=0):=by
    show _=_
    rw [formedL_drop HN.out,List.drop_eq_nil_of_le (Nat.le_refl _)];rfl
   go_wp2_with fail
   go_ret
   exact ⟨by rw [HF.out];rfl,rfl⟩
end Tm
end Go.Proofs.YtbnpgakmhhfjkaaGreatDoor
namespace Go.Proofs.YtbnpgakmhhfjkaaGreatDoor
open Go.RowKit Rc
open Tr (Nm En T)
namespace Tm
variable {p:Nat} {av:Value} {gs:List Nat} {S:Nat→Prop} {t:T} {w:World}
theorem TIn.ptr (h:TIn p av gs S t w) (hG:Tr.Good t) {i:Int} {e:En} (hf:Tr.find t i=some e):∃ g S1,ptrOf gs t i=.pointer (some ⟨g,0,none⟩)∧EAt g e S1 w∧(∀ b,S1 b→S b)∧e.names.length≤4194240:=by
 obtain ⟨A,B,rfl,he,hA,hB⟩:=hG.ris.split hf
 obtain ⟨ga,g,gb,S1,rfl,hl,h1,h2,_⟩:=h.each.mid
 exact ⟨g,S1,ptrOf_mid hl (fun a ha=>by have:=hA a ha;omega) he,h1,h2,hG.names_le (find_some hf).1⟩
where find_some {t:T} {i:Int} {e:En} (h:Tr.find t i=some e):=Tr.find_some h
def ptrAt (gs:List Nat) (t:T) (p:List Bs):Value:=if (Tr.lookF t 0 p).2=0 then ptrOf gs t (Tr.lookF t 0 p).1 else .pointer none
set_option maxHeartbeats 2000000 in
set_option maxRecDepth 100000 in
theorem at_any (h:TIn p av gs S t w) (hG:Tr.Good t) (A:Option Addr) (q:List Bs) (cap:Nat) (hr:RdS w A q) (hl:q.length≤1000000) :
    Calls Tryz.prog 104 #[.pointer (some ⟨p,0,none⟩),.slice A q.length cap] w fun e w'=>e=.returned (.tuple #[ptrAt gs t q,.int .i64 ((Tr.lookF t 0 q).2:Nat)])∧Below w.heap.size w w':=by
 have H:=Lib.hid h
 have HG:=Lib.hid hG
 have HR:=Lib.hid hr
 have HF0:=Lib.hid (find_any h 0 (by have:=hG.few;omega))
 obtain ⟨r,hr0,_,_⟩:=hG.zero
 obtain ⟨g0,S0,hp0,_,_,_⟩:=h.ptr hG hr0
 rw [hp0] at HF0
 have HP0:=Lib.hid hp0
 have HR0:=Lib.hid hr0
 clear h hG hr hr0 hp0
 go_enter Tryz.func104,Tryz.ntmps104
 go_wp2_with fail
 refine HF0.out.mono ?_
 rintro e w1 ⟨rfl,rfl⟩
 go_wp2_with fail
 go_loopw [6,8,9,10,15] (fun t6 t8 t9 t10 t15 wr=>∃ (k:Nat) (i:Int) (en:En) (g:Nat) (v8 v9 v10:Value),t6=.pointer (some ⟨g,0,none⟩)∧t8=v8∧t9=v9∧t10=v10∧t15=.int .i64 k∧k≤q.length∧Hid (Tr.find t i=some en)∧Hid (ptrOf gs t i=.pointer (some ⟨g,0,none⟩))∧Hid (Tr.lookF t 0 q=Tr.lookF t i (q.drop k))∧Hid (Below w1.heap.size w1 wr)) (fun _ _ _ _ t15 _=>q.length-(match t15 with|.int _ k=>k.toNat|_=>0))
 case atStart=>exact ⟨0,0,r,g0,_,_,_,rfl,rfl,rfl,rfl,rfl,Nat.zero_le _,HR0.out,HP0.out,rfl,Below.refl _ _⟩
 case round =>
  obtain ⟨k,i,en,g,v8,v9,v10,rfl,rfl,rfl,rfl,rfl,hk1,HFI,HPI,HLK,HB⟩:=hrel
  by_cases hk:k<q.length
  ·obtain ⟨x,hx⟩:∃ x,q[k]?=some x:=⟨_,List.getElem?_eq_getElem hk⟩
   obtain ⟨b,off,rfl,c0⟩:=(HR.out.below HB.out).at_ hx
   have hlt:(k:Int)<(q.length:Int):=by omega
   have hin:=H.out.below HB.out
   obtain ⟨g',S1,hpp,hE,_,hnl⟩:=hin.ptr HG.out HFI.out
   obtain rfl:g'=g:=by rw [HPI.out] at hpp;injection hpp with hpp;injection hpp with hpp;injection hpp with hpp;exact hpp.symm
   have c1:=hE.cells.2.1
   have hdrop:q.drop k=x :: q.drop (k+1):=by
    rw [List.drop_eq_getElem_cons hk,(List.getElem?_eq_some_iff.1 hx).2]
   have hlk:=HLK.out
   rw [hdrop,Tr.lookF_cons,Tr.kindOf_of HFI.out,Tr.kids_of HFI.out] at hlk
   have HID:=Lib.hid (id_any hE x (by omega))
   have HFA:=Lib.hid (fun (W:World) (hW:Below wr.heap.size wr W) (j:Int)=>find_any (hin.below hW) j (by have:=HG.out.few;omega))
   have HLK2:=Lib.hid hlk
   clear hx hpp hE hin hdrop hlk hnl
   by_cases h2:en.nd.kind=2
   ·have hk2:(en.nd.kind==2)=true:=by simpa using h2
    have hlk2:=HLK2.out
    rw [if_neg (by rw [h2];simp)] at hlk2
    obtain ⟨o,ho⟩:∃ o,o=Tr.get en.names x:=⟨_,rfl⟩
    rw [← ho] at HID hlk2
    have HO:=Lib.hid ho
    clear ho h2
    go_wp2_with fail
    refine HID.out.mono ?_
    rintro e w2 ⟨rfl,hb⟩
    have HB2:=Lib.hid hb
    clear hb
    cases o with
    | none =>
      have HL:Hid (Tr.lookF t 0 q=(0,20)):=hlk2
      clear hlk2
      unfold told
      simp only [Option.getD_none,Option.isSome_none]
      go_wp2_with fail
      go_ret2
      refine ⟨?_,HB.out.trans (HB2.out.mono HB.out.size)⟩
      unfold ptrAt
      rw [HL.out,if_neg (by simp)];rfl
    | some j =>
      have hm:(x,j) ∈ Tr.kids t i:=by rw [Tr.kids_of HFI.out];exact Tr.get_mem HO.out.symm
      obtain ⟨_,hs⟩:=HG.out.leads_to hm
      obtain ⟨en2,hen2⟩:=Option.isSome_iff_exists.1 hs
      obtain ⟨g2,_,hp2,_,_,_⟩:=H.out.ptr HG.out hen2
      have hf2:=HFA.out w2 HB2.out j
      rw [hp2] at hf2
      have HF2:=Lib.hid hf2
      have HE2:=Lib.hid hen2
      have HP2:=Lib.hid hp2
      have HL:Hid (Tr.lookF t 0 q=Tr.lookF t j (q.drop (k+1))):=hlk2
      clear hlk2 hm hs hf2 hen2 hp2
      unfold told
      simp only [Option.getD_some,Option.isSome_some]
      go_wp2_with fail
      refine HF2.out.mono ?_
      rintro e w3 ⟨rfl,rfl⟩
      go_wp2_with fail
      go_roundw
      case rel=>exact ⟨k+1,j,en2,g2,_,_,_,rfl,rfl,rfl,rfl,by go_num,by omega,HE2.out,HP2.out,HL.out,HB.out.trans (HB2.out.mono HB.out.size)⟩
      case measure=>simp;omega
   ·have hk2:(en.nd.kind==2)=false:=by simpa using h2
    have HL:Hid (Tr.lookF t 0 q=(0,23)):=by
     have:=HLK2.out
     rw [if_pos h2] at this
     exact this
    clear h2
    go_wp2_with fail
    go_ret2
    refine ⟨?_,HB.out⟩
    unfold ptrAt
    rw [HL.out,if_neg (by simp)];rfl
  ·obtain rfl:k=q.length:=by omega
   have HL:Hid (Tr.lookF t 0 q=(i,0)):=by
    have:=HLK.out
    rw [List.drop_eq_nil_of_le (Nat.le_refl _)] at this
    exact this
   go_wp2_with fail
   go_ret2
   refine ⟨?_,HB.out⟩
   unfold ptrAt
   rw [HL.out,if_pos rfl,HPI.out];rfl
def placeV (gs:List Nat) (t:T) (q:List Bs):Value:=.tuple #[if (Tr.place t q).2.2=0 then ptrOf gs t (Tr.place t q).1 else .pointer none,.string (strOf (Tr.place t q).2.1),.int .i64 ((Tr.place t q).2.2:Nat)]
set_option maxHeartbeats 2000000 in
set_option maxRecDepth 100000 in
theorem place_any (h:TIn p av gs S t w) (hG:Tr.Good t) (A:Option Addr) (q:List Bs) (cap:Nat) (hr:RdS w A q) (hc:q.length≤cap) (hl:q.length≤1000000) :
    Calls Tryz.prog 85 #[.pointer (some ⟨p,0,none⟩),.slice A q.length cap] w fun e w'=>e=.returned (placeV gs t q)∧Below w.heap.size w w':=by
 rcases List.eq_nil_or_concat q with rfl|⟨r,x,hq⟩
 ·have HV:Hid (placeV gs t []=.tuple #[.pointer none,.string (strOf []),.int .i64 1]):=by
   show _=_
   unfold placeV Tr.place
   rfl
  have HP:=Lib.hid (parent_none A cap w)
  show Calls _ _ #[_,.slice A 0 cap] w _
  clear h hG hr
  go_enter Tryz.func85,Tryz.ntmps85
  go_wp2_with fail
  refine HP.out.mono ?_
  rintro e w1 ⟨rfl,rfl⟩
  go_wp2_with fail
  go_ret3
  exact ⟨by rw [HV.out];rfl,Below.refl _ _⟩
 ·rw [List.concat_eq_append] at hq
  have hql:q.length=r.length+1:=by rw [hq];simp
  have hpar:=parent_any q r x A cap w hr hc (by omega) hq
  have hqne:q≠[]:=by rw [hq];simp
  have hdl:q.dropLast=r:=by rw [hq];simp
  have hgl:q.getLastD []=x:=by rw [hq];simp
  obtain ⟨i,n,hin⟩:∃ i n,Tr.lookF t 0 r=(i,n):=⟨_,_,rfl⟩
  have hplace:Tr.place t q=if n≠0 then (0,[],n) else if Tr.kindOf t i≠2 then (0,[],23) else (i,x,0):=by
   unfold Tr.place
   rw [if_neg hqne,hdl,hgl,hin]
  have hat:∀ (W:World) (X:Option Addr) (c:Nat),Below w.heap.size w W→RdS W X r→Calls Tryz.prog 104 #[.pointer (some ⟨p,0,none⟩),.slice X r.length c] W fun e w'=>e=.returned (.tuple #[ptrAt gs t r,.int .i64 ((Tr.lookF t 0 r).2:Nat)])∧Below W.heap.size W w':=fun W X c hW hrW=>at_any (h.below hW) hG X r c hrW (by omega)
  rw [hin] at hat
  have HPAR:=Lib.hid hpar
  have HAT:=Lib.hid hat
  have HPL:=Lib.hid hplace
  have HIN:=Lib.hid hin
  have H:=Lib.hid h
  have HG:=Lib.hid hG
  clear hpar hat hplace hin h hG hqne hdl hgl hq hr hql
  go_enter Tryz.func85,Tryz.ntmps85
  go_wp2_with fail
  refine HPAR.out.mono ?_
  rintro e w1 ⟨X,c,rfl,hXc,hrX,hb1⟩
  have HB1:=Lib.hid hb1
  have HA:=Lib.hid (HAT.out w1 X c hb1 hrX)
  clear hb1 hrX
  go_wp2_with fail
  refine HA.out.mono ?_
  rintro e w2 ⟨rfl,hb2⟩
  have HB2:Hid (Below w.heap.size w w2):=HB1.out.trans (hb2.mono HB1.out.size)
  clear hb2
  by_cases hn:n=0
  ·subst hn
   have hs:(Tr.find t i).isSome=true:=by
    have h1:=HG.out.look_is (p:=r) (by rw [HIN.out])
    rw [HIN.out] at h1
    exact h1
   obtain ⟨en,hen⟩:=Option.isSome_iff_exists.1 hs
   obtain ⟨g,S1,hpp,hE,_,_⟩:=(H.out.below HB2.out).ptr HG.out hen
   have hptr:ptrAt gs t r=.pointer (some ⟨g,0,none⟩):=by
    unfold ptrAt
    rw [HIN.out,if_pos rfl];exact hpp
   have c1:=hE.cells.2.1
   have HK:Hid (Tr.kindOf t i=en.nd.kind):=Tr.kindOf_of hen
   have HPP:=Lib.hid hpp
   rw [hptr]
   clear hs hen hpp hE hptr
   by_cases h2:en.nd.kind=2
   ·have hk2:(en.nd.kind==2)=true:=by simpa using h2
    have HV:Hid (placeV gs t q=.tuple #[.pointer (some ⟨g,0,none⟩),.string (strOf x),.int .i64 0]):=by
     have e:Tr.place t q=(i,x,0):=by rw [HPL.out];simp [show Tr.kindOf t i=_ from HK.out,h2]
     show _=_
     unfold placeV
     rw [e]
     simp only [if_true,HPP.out]
     rfl
    clear h2
    go_wp2_with fail
    go_ret3
    exact ⟨by rw [HV.out];rfl,HB2.out⟩
   ·have hk2:(en.nd.kind==2)=false:=by simpa using h2
    have HV:Hid (placeV gs t q=.tuple #[.pointer none,.string (strOf []),.int .i64 23]):=by
     have e:Tr.place t q=(0,[],23):=by rw [HPL.out];simp [show Tr.kindOf t i=_ from HK.out,h2]
     show _=_
     unfold placeV
     rw [e]
     rfl
    clear h2
    go_wp2_with fail
    go_ret3
    exact ⟨by rw [HV.out];rfl,HB2.out⟩
  ·have hptr:ptrAt gs t r=.pointer none:=by
    unfold ptrAt
    rw [HIN.out,if_neg hn]
   have HV:Hid (placeV gs t q=.tuple #[.pointer none,.string (strOf []),.int .i64 (n:Nat)]):=by
    show _=_
    unfold placeV
    rw [HPL.out,if_pos hn]
    simp only [if_neg hn]
   have hni:((n:Int)==0)=false:=by rw [beq_eq_false_iff_ne];omega
   rw [hptr]
   clear hn hptr
   go_wp2_with fail
   go_ret3
   exact ⟨by rw [HV.out];rfl,HB2.out⟩
theorem free_at:∀ (t:T) (i:Int) (k:Nat),k≤t.length→(∀ j e,j<k→t[j]?=some e→e.nd.id=i+(j:Int))→(∀ e,t[k]?=some e→e.nd.id≠i+(k:Int))→Tr.freeFrom i t=i+(k:Int)
 | [],i,k,hk,_,_=>by
   obtain rfl:k=0:=by simpa using hk
   simp [Tr.freeFrom]
 | e :: t,i,0,_,_,h2=>by
   have:=h2 e rfl
   unfold Tr.freeFrom
   rw [if_neg (by simpa using this)];simp
 | e :: t,i,k+1,hk,h1,h2=>by
   have h0:=h1 0 e (by omega) rfl
   unfold Tr.freeFrom
   rw [if_pos (by simpa using h0),free_at t (i+1) k (by simpa using hk) (fun j m hj hm=>by have:=h1 (j+1) m (by omega) (by simpa using hm);omega) (fun m hm=>by have:=h2 m (by simpa using hm);omega)]
   omega
set_option maxHeartbeats 2000000 in
set_option maxRecDepth 100000 in
theorem free_any (h:TIn p av gs S t w) (hlt:t.length≤1000000) :
    Calls Tryz.prog 89 #[.pointer (some ⟨p,0,none⟩)] w fun e w'=>e=.returned (.int .i64 (Tr.free t))∧w'=w:=by
 have H:=Lib.hid h
 have c0:w.cell? ⟨p,0,none⟩=some av:=h.box.cell 0
 have hl:=h.each.len
 obtain ⟨A,c,rfl,hc,hA⟩:=own_form h.row
 have HA:=Lib.hid hA
 have HL:=Lib.hid hl
 have HLT:=Lib.hid hlt
 have hg9:gs.length≤1000000:=by omega
 clear h hA hl hlt
 go_enter Tryz.func89,Tryz.ntmps89
 go_wp2_with fail
 go_loopw [3] (fun t3 wr=>∃ k:Nat,t3=.int .i64 k∧k≤gs.length∧Hid (∀ j e,j<k→t[j]?=some e→e.nd.id=(j:Int))∧wr=w) (fun t3 _=>gs.length-(match t3 with|.int _ k=>k.toNat|_=>0))
 case atStart=>exact ⟨0,rfl,Nat.zero_le _,fun j e hj=>absurd hj (Nat.not_lt_zero _),rfl⟩
 case round =>
  obtain ⟨k,rfl,hk1,HN,rfl⟩:=hrel
  by_cases hk:k<gs.length
  ·obtain ⟨e,he⟩:∃ e,t[k]?=some e:=⟨_,List.getElem?_eq_getElem (by rw [← HL.out];exact hk)⟩
   obtain ⟨g,S1,hg,hE,_⟩:=H.out.each.get he
   obtain ⟨q,rfl,_,_,_,hcell⟩:=HA.out (by omega)
   have c1:wr.cell? ⟨q,k,none⟩=some (.pointer (some ⟨g,0,none⟩)):=hcell k _ (by simp [ptrCells,hg])
   have c2:=hE.cells.1
   have hlt2:(k:Int)<(gs.length:Int):=by omega
   have HE:=Lib.hid he
   clear he hg hE hcell
   by_cases hi:e.nd.id=(k:Int)
   ·have HN1:Hid (∀ j e,j<k+1→t[j]?=some e→e.nd.id=(j:Int)):=fun j m hj hm=>by
     rcases Nat.lt_or_ge j k with h1|h1
     ·exact HN.out j m h1 hm
     ·obtain rfl:j=k:=by omega
      rw [HE.out] at hm
      injection hm with hm
      rw [← hm];exact hi
    have hb:(e.nd.id==(k:Int))=true:=by simpa using hi
    clear hi
    go_wp2_with fail
    go_roundw
    case rel=>exact ⟨k+1,by go_num,by omega,HN1.out,by first|rfl|trivial⟩
    case measure=>simp;omega
   ·have HF:Hid (Tr.free t=(k:Int)):=by
     have:=free_at t 0 k (by have:=HL.out;omega) (fun j m hj hm=>by rw [HN.out j m hj hm];simp) (fun m hm=>by rw [HE.out] at hm;injection hm with hm;rw [← hm];simpa using hi)
     show _=_
     unfold Tr.free
     rw [this];simp
    have hb:(e.nd.id==(k:Int))=false:=by simpa using hi
    clear hi
    go_wp2_with fail
    go_ret
    exact ⟨by rw [HF.out];rfl,rfl⟩
  ·obtain rfl:k=gs.length:=by omega
   have HF:Hid (Tr.free t=(gs.length:Int)):=by
    have:=free_at t 0 gs.length (by have:=HL.out;omega) (fun j m hj hm=>by rw [HN.out j m hj hm];simp) (fun m hm=>by have:=(List.getElem?_eq_some_iff.1 hm).1;have:=HL.out;omega)
    show _=_
    unfold Tr.free
    rw [this];simp
   go_wp2_with fail
   go_ret
   exact ⟨by rw [HF.out];rfl,rfl⟩
set_option maxHeartbeats 1000000 in
set_option maxRecDepth 100000 in
theorem count_any (h:TIn p av gs S t w) :
    Calls Tryz.prog 87 #[.pointer (some ⟨p,0,none⟩)] w fun e w'=>e=.returned (.int .i64 (t.length:Nat))∧w'=w:=by
 have c0:w.cell? ⟨p,0,none⟩=some av:=h.box.cell 0
 have HL:Hid (gs.length=t.length):=h.each.len
 obtain ⟨A,c,rfl,hc,_⟩:=own_form h.row
 clear h
 go_enter Tryz.func87,Tryz.ntmps87
 go_wp2_with fail
 go_ret
 exact ⟨by rw [← HL.out];rfl,rfl⟩
end Tm
end Go.Proofs.YtbnpgakmhhfjkaaGreatDoor
namespace Go.Proofs.YtbnpgakmhhfjkaaGreatDoor
open Go.RowKit
theorem upTo_yes (x m:Int) (w:World) (h:0≤x∧x≤m):Calls Tryz.prog 175 #[.int .i64 x,.int .i64 m] w fun e w'=>e=.returned (.bool true)∧w=w':=by
 obtain ⟨h0,h1⟩:=h
 go_enter Tryz.func175,Tryz.ntmps175
 go_wp2
 go_ret
 exact ⟨rfl,rfl⟩
theorem upTo_no (x m:Int) (w:World) (h:¬ (0≤x∧x≤m)):Calls Tryz.prog 175 #[.int .i64 x,.int .i64 m] w fun e w'=>e=.returned (.bool false)∧w=w':=by
 by_cases h0:0≤x
 ·have h1:¬ x≤m:=fun hm=>h ⟨h0,hm⟩
  clear h
  go_enter Tryz.func175,Tryz.ntmps175
  go_wp2
  go_ret
  exact ⟨rfl,rfl⟩
 ·clear h
  go_enter Tryz.func175,Tryz.ntmps175
  go_wp2
  go_ret
  exact ⟨rfl,rfl⟩
theorem Nd.right_is (n:Nd) (b:Bool) (h:n.Right↔b=true):n.right=b:=by
 unfold Nd.right
 cases b
 ·simpa using h
 ·simpa using h
set_option maxHeartbeats 1000000 in
theorem right_any (n:Nd) (w:World):Calls Tryz.prog 131 #[n.val] w fun e w'=>e=.returned (.bool n.right)∧Below w.heap.size w w':=by
 obtain ⟨id,kind,links,size,till,shut⟩:=n
 show Calls _ _ #[.agg #[.int .i64 id,.int .i64 kind,.int .i64 links,.int .i64 size,.int .u64 (till:Nat),.bool shut]] w _
 have HYY:Hid (∀ h,Hid (Nd.right ⟨id,kind,links,size,till,shut⟩=true)):=Lib.hid (Nd.right_is ⟨id,kind,links,size,till,shut⟩ true)
 have HNN:Hid (∀ h,Hid (Nd.right ⟨id,kind,links,size,till,shut⟩=false)):=Lib.hid (Nd.right_is ⟨id,kind,links,size,till,shut⟩ false)
 by_cases h1:0≤id∧id≤65535
 ·by_cases h2:0≤links∧links≤65535
  ·by_cases k1:kind=1
   ·by_cases h3:0≤size∧size≤4096
    ·by_cases h4:(till:Int)≤1099511627776
     ·go_enter Tryz.func131,Tryz.ntmps131
      go_wp2_with fail
      refine (upTo_yes _ _ _ h1).mono ?_
      rintro e _ ⟨rfl,rfl⟩
      go_wp2_with fail
      refine (upTo_yes _ _ _ h2).mono ?_
      rintro e _ ⟨rfl,rfl⟩
      go_wp2_with fail
      refine (upTo_yes _ _ _ h3).mono ?_
      rintro e _ ⟨rfl,rfl⟩
      go_wp2_with fail
      go_ret
      refine ⟨congrArg (fun b=>Ending.returned (Value.bool b)) (Eq.trans ?_ (HYY.out (by simp [Nd.Right] <;> omega)).out.symm),below_new w _⟩;first|rfl|(simp <;> omega)
     ·go_enter Tryz.func131,Tryz.ntmps131
      go_wp2_with fail
      refine (upTo_yes _ _ _ h1).mono ?_
      rintro e _ ⟨rfl,rfl⟩
      go_wp2_with fail
      refine (upTo_yes _ _ _ h2).mono ?_
      rintro e _ ⟨rfl,rfl⟩
      go_wp2_with fail
      refine (upTo_yes _ _ _ h3).mono ?_
      rintro e _ ⟨rfl,rfl⟩
      go_wp2_with fail
      go_ret
      refine ⟨congrArg (fun b=>Ending.returned (Value.bool b)) (Eq.trans ?_ (HNN.out (by simp [Nd.Right] <;> omega)).out.symm),below_new w _⟩;first|rfl|(simp <;> omega)
    ·go_enter Tryz.func131,Tryz.ntmps131
     go_wp2_with fail
     refine (upTo_yes _ _ _ h1).mono ?_
     rintro e _ ⟨rfl,rfl⟩
     go_wp2_with fail
     refine (upTo_yes _ _ _ h2).mono ?_
     rintro e _ ⟨rfl,rfl⟩
     go_wp2_with fail
     refine (upTo_no _ _ _ h3).mono ?_
     rintro e _ ⟨rfl,rfl⟩
     go_wp2_with fail
     go_ret
     refine ⟨congrArg (fun b=>Ending.returned (Value.bool b)) (Eq.trans ?_ (HNN.out (by simp [Nd.Right] <;> omega)).out.symm),below_new w _⟩;first|rfl|(simp <;> omega)
   ·by_cases k2:kind=2
    ·by_cases h3:size=0
     ·by_cases h4:(till:Int)=0
      ·cases shut
       ·go_enter Tryz.func131,Tryz.ntmps131
        go_wp2_with fail
        refine (upTo_yes _ _ _ h1).mono ?_
        rintro e _ ⟨rfl,rfl⟩
        go_wp2_with fail
        refine (upTo_yes _ _ _ h2).mono ?_
        rintro e _ ⟨rfl,rfl⟩
        go_wp2_with fail
        go_ret
        refine ⟨congrArg (fun b=>Ending.returned (Value.bool b)) (Eq.trans ?_ (HNN.out (by simp [Nd.Right] <;> omega)).out.symm),below_new w _⟩;first|rfl|(simp <;> omega)
       ·go_enter Tryz.func131,Tryz.ntmps131
        go_wp2_with fail
        refine (upTo_yes _ _ _ h1).mono ?_
        rintro e _ ⟨rfl,rfl⟩
        go_wp2_with fail
        refine (upTo_yes _ _ _ h2).mono ?_
        rintro e _ ⟨rfl,rfl⟩
        go_wp2_with fail
        go_ret
        refine ⟨congrArg (fun b=>Ending.returned (Value.bool b)) (Eq.trans ?_ (HYY.out (by simp [Nd.Right] <;> omega)).out.symm),below_new w _⟩;first|rfl|(simp <;> omega)
      ·go_enter Tryz.func131,Tryz.ntmps131
       go_wp2_with fail
       refine (upTo_yes _ _ _ h1).mono ?_
       rintro e _ ⟨rfl,rfl⟩
       go_wp2_with fail
       refine (upTo_yes _ _ _ h2).mono ?_
       rintro e _ ⟨rfl,rfl⟩
       go_wp2_with fail
       go_ret
       refine ⟨congrArg (fun b=>Ending.returned (Value.bool b)) (Eq.trans ?_ (HNN.out (by simp [Nd.Right] <;> omega)).out.symm),below_new w _⟩;first|rfl|(simp <;> omega)
     ·go_enter Tryz.func131,Tryz.ntmps131
      go_wp2_with fail
      refine (upTo_yes _ _ _ h1).mono ?_
      rintro e _ ⟨rfl,rfl⟩
      go_wp2_with fail
      refine (upTo_yes _ _ _ h2).mono ?_
      rintro e _ ⟨rfl,rfl⟩
      go_wp2_with fail
      go_ret
      refine ⟨congrArg (fun b=>Ending.returned (Value.bool b)) (Eq.trans ?_ (HNN.out (by simp [Nd.Right] <;> omega)).out.symm),below_new w _⟩;first|rfl|(simp <;> omega)
    ·go_enter Tryz.func131,Tryz.ntmps131
     go_wp2_with fail
     refine (upTo_yes _ _ _ h1).mono ?_
     rintro e _ ⟨rfl,rfl⟩
     go_wp2_with fail
     refine (upTo_yes _ _ _ h2).mono ?_
     rintro e _ ⟨rfl,rfl⟩
     go_wp2_with fail
     go_ret
     refine ⟨congrArg (fun b=>Ending.returned (Value.bool b)) (Eq.trans ?_ (HNN.out (by simp [Nd.Right] <;> omega)).out.symm),below_new w _⟩;first|rfl|(simp <;> omega)
  ·go_enter Tryz.func131,Tryz.ntmps131
   go_wp2_with fail
   refine (upTo_yes _ _ _ h1).mono ?_
   rintro e _ ⟨rfl,rfl⟩
   go_wp2_with fail
   refine (upTo_no _ _ _ h2).mono ?_
   rintro e _ ⟨rfl,rfl⟩
   go_wp2_with fail
   go_ret
   refine ⟨congrArg (fun b=>Ending.returned (Value.bool b)) (Eq.trans ?_ (HNN.out (by simp [Nd.Right] <;> omega)).out.symm),below_new w _⟩;first|rfl|(simp <;> omega)
 ·go_enter Tryz.func131,Tryz.ntmps131
  go_wp2_with fail
  refine (upTo_no _ _ _ h1).mono ?_
  rintro e _ ⟨rfl,rfl⟩
  go_wp2_with fail
  go_ret
  refine ⟨congrArg (fun b=>Ending.returned (Value.bool b)) (Eq.trans ?_ (HNN.out (by simp [Nd.Right] <;> omega)).out.symm),below_new w _⟩;first|rfl|(simp <;> omega)
end Go.Proofs.YtbnpgakmhhfjkaaGreatDoor
namespace Go.Proofs.YtbnpgakmhhfjkaaGreatDoor
open Go.RowKit
theorem results_blk_tmp {P:Program} {fn:Func} {p u:Tmp} {ty:TypeId} (h:fn.results=#[.cell p ty,.tmp u]) (tmps:Array Value) (w:World) (g:Nat) (t:TypeId) (cs:List Value) (d:TypeDesc)
    (hp:tmps.getD p undef=.pointer (some ⟨g,0,none⟩)) (hb:Blk w g t cs)
    (hu:P.underlying ty=some d) (hd:(match d with|.struct _|.array _ _=>true|_=>false)=true) (hi:(P.info? ty).map (·.size)=some cs.length) :
    (results fn tmps).run P w=.ok (.tuple #[.agg cs.toArray,tmps.getD u undef]) w:=by
 rw [results_cell_tmp h,hp]
 have hl:=run_loadVar_row (P:=P) w g t ty cs.toArray (0,0) d hb hu hd (by simpa using hi)
 simp [asAddr,hl,Result.andThen]
theorem below_set1 {w w':World} {B g:Nat} (h:Below B w w') (hg:B≤g) (i:Nat) (u:Value):Below B w (w'.setCell ⟨g,i,none⟩ u) :=
 ⟨h.os,h.tape,h.output,by simpa [World.setCell] using h.size,fun k hk=>(Below.heap_setCell w' ⟨g,i,none⟩ u k (by show k≠g;omega)).trans (h.block k hk)⟩
theorem Blk.set6 {w:World} {g:Nat} {t:TypeId} {a b c d e f:Value} (h:Blk w g t [a,b,c,d,e,f]) (x0 x1 x2 x3 x4 x5:Value) :
    Blk ((((((w.setCell ⟨g,0,none⟩ x0).setCell ⟨g,1,none⟩ x1).setCell ⟨g,2,none⟩ x2).setCell ⟨g,3,none⟩ x3).setCell ⟨g,4,none⟩ x4).setCell ⟨g,5,none⟩ x5) g t [x0,x1,x2,x3,x4,x5] :=
 (((((h.set_ 0 x0).set_ 1 x1).set_ 2 x2).set_ 3 x3).set_ 4 x4).set_ 5 x5
theorem below_set6 {w w':World} {B g:Nat} (h:Below B w w') (hg:B≤g) (x0 x1 x2 x3 x4 x5:Value) :
    Below B w ((((((w'.setCell ⟨g,0,none⟩ x0).setCell ⟨g,1,none⟩ x1).setCell ⟨g,2,none⟩ x2).setCell ⟨g,3,none⟩ x3).setCell ⟨g,4,none⟩ x4).setCell ⟨g,5,none⟩ x5) :=
 below_set1 (below_set1 (below_set1 (below_set1 (below_set1 (below_set1 h hg 0 x0) hg 1 x1) hg 2 x2) hg 3 x3) hg 4 x4) hg 5 x5
end Go.Proofs.YtbnpgakmhhfjkaaGreatDoor
namespace Go.Proofs.YtbnpgakmhhfjkaaGreatDoor
open Go.RowKit Rc
theorem Rd.mod {w w':World} {A:Option Addr} {l:List UInt8} {S:Nat→Prop} (h:Rd w A l) (hm:Mod w w' S) (hA:0<l.length→∀ b,A.map (·.block)=some b→¬ S b):Rd w' A l:=by
 intro hl
 exact h.keep (fun p hp hb=>by unfold World.cell?;rw [hm.block p.block hp (hA hl _ hb)]) hm.size hl
def WOut (At:Value→List UInt8→(Nat→Prop)→World→Prop) (v:Value) (l:List UInt8) (S:Nat→Prop) (w:World) (e:Ending) (w':World):Prop :=
 (∃ x,e=.returned x)∧∃ S',At v l S' w'∧Mod w w' S∧∀ b,S' b→S b∨w.heap.size≤b
structure WSaid where
 At:Value→List UInt8→(Nat→Prop)→World→Prop
 keep:∀ {v l S w w'},At v l S w→w.heap.size≤w'.heap.size→(∀ b,S b→w'.heap[b]?=w.heap[b]?)→At v l S w'
 lt:∀ {v l S w},At v l S w→∀ b,S b→b<w.heap.size
 ptr:∀ {v l S w},At v l S w→∃ a,v=.pointer (some a)
 new:∀ w,Calls Tryz.prog 67 #[] w fun e w'=>∃ v S,e=.returned v∧At v [] S w'∧Below w.heap.size w w'∧∀ b,S b→w.heap.size≤b
 byte:∀ {v l S w},At v l S w→l.length≤1099511500000→∀ n:Nat,n≤9223372036854775807→Calls Tryz.prog 130 #[v,.int .i64 (n:Nat)] w (WOut At v (l++Co.wByte n) S w)
 short:∀ {v l S w},At v l S w→l.length≤1099511500000→∀ n:Nat,n≤9223372036854775807→Calls Tryz.prog 72 #[v,.int .i64 (n:Nat)] w (WOut At v (l++Co.wShort n) S w)
 long:∀ {v l S w},At v l S w→l.length≤1099511500000→∀ n:Nat,n≤18446744073709551615→Calls Tryz.prog 68 #[v,.int .u64 (n:Nat)] w (WOut At v (l++Co.wLong n) S w)
 flag:∀ {v l S w},At v l S w→l.length≤1099511500000→∀ f:Bool,Calls Tryz.prog 132 #[v,.bool f] w (WOut At v (l++Co.wFlag f) S w)
 bytes:∀ {v l S w},At v l S w→l.length≤1099511500000→∀ A x c,Rd w A x→x.length≤c→x.length≤1000000→(0<x.length→∀ b,A.map (·.block)=some b→¬ S b)→Calls Tryz.prog 74 #[v,.slice A x.length c] w (WOut At v (l++Co.wBytes x) S w)
 raw:∀ {v l S w},At v l S w→∀ A x c,Rd w A x→x.length≤c→l.length+x.length≤1099511600000→(0<x.length→∀ b,A.map (·.block)=some b→¬ S b)→Calls Tryz.prog 69 #[v,.slice A x.length c] w (WOut At v (l++x) S w)
 done:∀ {v l S w},At v l S w→Calls Tryz.prog 71 #[v] w fun e w'=>∃ x,e=.returned x∧w'.ownsRow 0 5 1 x l.length (Lib.byteCells l)∧Below w.heap.size w w'∧∀ b,x.ownBlock=some b→S b∨w.heap.size≤b
theorem wout_below {w w1 w2:World} {S:Nat→Prop} (h:Below w.heap.size w w1) (hS:∀ b,S b→w.heap.size≤b) (hm:Mod w1 w2 S):Below w.heap.size w w2 :=
 ((Mod.of_below h S).trans hm).below hS
end Go.Proofs.YtbnpgakmhhfjkaaGreatDoor
