/-
  OWN WORK. PaPure, BaText, BaStrs, TrPure, TrLaw, TrGood, TrStep, TrKept, TrKeptB
-/
import Derived.Test.YtbnpgakmhhfjkaaGreatDoorO01
import Derived.WalkSpells
import Derived.Test.YtbnpgakmhhfjkaaGreatDoorO02
namespace Go.Proofs.YtbnpgakmhhfjkaaGreatDoor
namespace Pa
abbrev Bytes:=List UInt8
def okByte (c:UInt8):Bool:=(97≤c.toNat&&c.toNat≤122) || (48≤c.toNat&&c.toNat≤57) || c==46 || c==45 || c==95
def good (n:Bytes):Bool:=n.all okByte&&decide (1≤n.length)&&decide (n.length≤16)&&n != [46]&&n != [46,46]
def pieces:Bytes→List Bytes
 | []=>[[]]
 | c :: s=>if c=47 then [] :: pieces s else match pieces s with
   | []=>[[c]]
   | p :: ps=>(c :: p) :: ps
def split (d:Nat) (s:Bytes):List Bytes × Nat :=
 if s=[47] then ([],0)
 else match s with
  | []=>([],12)
  | c :: s=>if c=47 then
      (if (pieces s).all good then (if (pieces s).length≤d then (pieces s,0) else ([],3)) else ([],12))
   else ([],12)
theorem pieces_plain {p:Bytes} (h:∀ c ∈ p,c≠47):pieces p=[p]:=by
 induction p with
 | nil=>rfl
 | cons c s ih =>
   unfold pieces
   rw [if_neg (h c (by simp)),ih fun d hd=>h d (by simp [hd])]
theorem pieces_app {p s:Bytes} (h:∀ c ∈ p,c≠47):pieces (p++47 :: s)=p :: pieces s:=by
 induction p with
 | nil=>simp [pieces]
 | cons c q ih =>
   rw [List.cons_append]
   have e:∀ x,pieces (c :: x)=(match pieces x with|[]=>[[c]]|p :: ps=>(c :: p) :: ps):=fun x=>by rw [pieces,if_neg (h c (by simp))]
   rw [e,ih fun d hd=>h d (by simp [hd])]
structure Parts (s0 t:Bytes) (c:List Bytes):Prop where
 good:∀ n ∈ c,good n=true
 way:∃ u0,s0=47 :: u0∧u0≠[]∧(t=[]→pieces u0=c)∧(t≠[]→∃ u,t=47 :: u∧pieces u0=c++pieces u)
theorem Parts.begin {u:Bytes} (h:u≠[]):Parts (47 :: u) (47 :: u) []:=⟨(fun n hn=>by cases hn),u,rfl,h,(fun e=>by cases e),fun _=>⟨u,rfl,rfl⟩⟩
theorem Parts.form {s0 t:Bytes} {c:List Bytes} (h:Parts s0 t c) (ht:t≠[]):∃ u,t=47 :: u:=by
 obtain ⟨_,_,_,_,h2⟩:=h.way
 obtain ⟨u,e,_⟩:=h2 ht
 exact ⟨u,e⟩
theorem pieces_next {p r:Bytes} (hp:∀ x ∈ p,x≠47) (hr:r=[]∨∃ r',r=47 :: r'):(r=[]→pieces (p++r)=[p])∧(r≠[]→∃ r',r=47 :: r'∧pieces (p++r)=p :: pieces r'):=by
 rcases hr with rfl|⟨r',rfl⟩
 ·exact ⟨(fun _=>by rw [List.append_nil];exact pieces_plain hp),fun h=>absurd rfl h⟩
 ·exact ⟨(fun h=>by cases h),fun _=>⟨r',rfl,pieces_app hp⟩⟩
theorem Parts.step {s0 p r:Bytes} {c:List Bytes} (h:Parts s0 (47 :: (p++r)) c) (hp:∀ x ∈ p,x≠47) (hr:r=[]∨∃ r',r=47 :: r') (hg:Pa.good p=true):Parts s0 r (c++[p]):=by
 obtain ⟨u0,e0,hu,_,h2⟩:=h.way
 obtain ⟨u,e,h3⟩:=h2 (by simp)
 simp only [List.cons.injEq,true_and] at e
 subst e
 obtain ⟨n1,n2⟩:=pieces_next hp hr
 refine ⟨fun n hn=>?_,u0,e0,hu,fun hr0=>by rw [h3,n1 hr0],fun hr0=>?_⟩
 ·rcases List.mem_append.1 hn with h4|h4
  ·exact h.good n h4
  ·simp only [List.mem_singleton] at h4;rw [h4];exact hg
 ·obtain ⟨r',e',h4⟩:=n2 hr0
  exact ⟨r',e',by rw [h3,h4,List.append_assoc];rfl⟩
theorem split_of {d:Nat} {u:Bytes} (h:u≠[]):split d (47 :: u)=if (pieces u).all Pa.good then (if (pieces u).length≤d then (pieces u,0) else ([],3)) else ([],12):=by
 unfold split
 rw [if_neg (by simpa using h)]
 simp
theorem Parts.bad {d:Nat} {s0 p r:Bytes} {c:List Bytes} (h:Parts s0 (47 :: (p++r)) c) (hp:∀ x ∈ p,x≠47) (hr:r=[]∨∃ r',r=47 :: r') (hg:Pa.good p=false):split d s0=([],12):=by
 obtain ⟨u0,rfl,hu,_,h2⟩:=h.way
 obtain ⟨u,e,h3⟩:=h2 (by simp)
 simp only [List.cons.injEq,true_and] at e
 subst e
 obtain ⟨n1,n2⟩:=pieces_next hp hr
 have hm:p ∈ pieces u0:=by
  rw [h3]
  by_cases hr0:r=[]
  ·rw [n1 hr0];simp
  ·obtain ⟨r',_,h4⟩:=n2 hr0
   rw [h4];simp
 rw [split_of hu,if_neg]
 rw [Bool.not_eq_true,List.all_eq_false]
 exact ⟨p,hm,by rw [hg];decide⟩
theorem Parts.done {d:Nat} {s0:Bytes} {c:List Bytes} (h:Parts s0 [] c):split d s0=if c.length≤d then (c,0) else ([],3):=by
 obtain ⟨u0,rfl,hu,h1,_⟩:=h.way
 rw [split_of hu,h1 rfl,if_pos (List.all_eq_true.2 h.good)]
theorem part_at {u:Bytes} {k:Nat} (h1:1≤k) (h2:k≤u.length+1) (h3:∀ (j:Nat) (c:UInt8),1≤j→j<k→(47 :: u)[j]?=some c→c≠47) (h4:k=u.length+1∨(47 :: u)[k]?=some 47) :
    ∃ p r,u=p++r∧(∀ c ∈ p,c≠47)∧(r=[]∨∃ r',r=47 :: r')∧1+p.length=k:=by
 obtain ⟨m,rfl⟩:∃ m,k=m+1:=⟨k-1,by omega⟩
 refine ⟨u.take m,u.drop m,(List.take_append_drop m u).symm,fun c hc=>?_,?_,by rw [List.length_take];omega⟩
 ·obtain ⟨j,hj,rfl⟩:=List.getElem_of_mem hc
  rw [List.length_take] at hj
  refine h3 (j+1) _ (by omega) (by omega) ?_
  rw [List.getElem?_cons_succ,List.getElem_take,List.getElem?_eq_getElem]
 ·rcases h4 with h4|h4
  ·exact .inl (List.drop_of_length_le (by omega))
  ·rw [List.getElem?_cons_succ] at h4
   obtain ⟨hm,e⟩:=List.getElem?_eq_some_iff.1 h4
   exact .inr ⟨u.drop (m+1),by rw [List.drop_eq_getElem_cons hm,e]⟩
end Pa
end Go.Proofs.YtbnpgakmhhfjkaaGreatDoor
namespace Go.Proofs.YtbnpgakmhhfjkaaGreatDoor
open Go.RowKit
theorem strOf_list (l:List UInt8):(strOf l).toList=l:=ByteArray.toList_mk l
theorem strOf_beq (a b:List UInt8):((strOf a).toList==(strOf b).toList)=decide (a=b):=by
 rw [strOf_list,strOf_list]
 by_cases h:a=b
 ·subst h;simp
 ·rw [decide_eq_false h];exact beq_eq_false_iff_ne.2 h
theorem strOf_lit (a b:List UInt8):((strOf a).toList==b)=decide (a=b):=by
 rw [strOf_list]
 by_cases h:a=b
 ·subst h;simp
 ·rw [decide_eq_false h];exact beq_eq_false_iff_ne.2 h
theorem str_at {l:List UInt8} {i:Nat} {c:UInt8} (h:l[i]?=some c) (w:World):(Instr.index 9 (.string (strOf l)) (.int .i64 (i:Nat))).run Tryz.prog w=.ok (.int .u8 (c.toNat:Nat)) w:=by
 have hi:=(List.getElem?_eq_some_iff.1 h).1
 rw [run_index_string w 9 (strOf l) .i64 i Tryz.underlying9,dif_pos (by rw [strOf_size];omega)]
 congr 3
 simp only [strOf,ByteArray.getElem_eq_getElem_data,Int.toNat_natCast,List.getElem_toArray]
 rw [(List.getElem?_eq_some_iff.1 h).2]
theorem str_at0 {l:List UInt8} {c:UInt8} (h:l[0]?=some c) (w:World):(Instr.index 9 (.string (strOf l)) (.int .i64 0)).run Tryz.prog w=.ok (.int .u8 (c.toNat:Nat)) w:=str_at h w
theorem str_extract (l:List UInt8) (a b:Nat):(strOf l).extract a b=strOf ((l.drop a).take (b-a)):=ByteArray.extract_mk l a b
theorem str_lh (l:List UInt8) (lo hi:Nat) (h1:lo≤hi) (h2:hi≤l.length) (w:World):(Instr.slice 9 (.string (strOf l)) (some (.int .i64 (lo:Nat))) (some (.int .i64 (hi:Nat))) none).run Tryz.prog w=.ok (.string (strOf ((l.drop lo).take (hi-lo)))) w:=by
 rw [run_slice_string w 9 (strOf l) .i64 .i64 lo hi Tryz.underlying9 (by omega) (by omega) (by rw [strOf_size];omega),str_extract]
 rfl
theorem str_l (l:List UInt8) (lo:Nat) (h1:lo≤l.length) (w:World):(Instr.slice 9 (.string (strOf l)) (some (.int .i64 (lo:Nat))) none none).run Tryz.prog w=.ok (.string (strOf (l.drop lo))) w:=by
 rw [run_slice_string_from_if w 9 (strOf l) .i64 lo Tryz.underlying9,if_pos (by rw [strOf_size];omega),str_extract,strOf_size]
 congr 3
 rw [Int.toNat_natCast,List.take_of_length_le (by rw [List.length_drop];omega)]
theorem strOf_append (a b:List UInt8):strOf a++strOf b=strOf (a++b):=by
 apply ByteArray.ext
 simp [strOf]
theorem str_add (a b:List UInt8) (h:a.length+b.length≤9223372036854775807):Op.stringOp .add (strOf a) (strOf b)=pure (.string (strOf (a++b))):=by
 unfold Op.stringOp
 simp only [strOf_size,strOf_append]
 rw [if_neg (by show ¬ ((a.length+b.length:Nat):Int) > 9223372036854775807;omega)]
end Go.Proofs.YtbnpgakmhhfjkaaGreatDoor
namespace Go.Proofs.YtbnpgakmhhfjkaaGreatDoor
open Go.RowKit
abbrev Bs:=List UInt8
theorem Tryz.infoStr:(Tryz.prog.info? 9).map (fun i=>(i.zero,i.size,i.bytes))=some (some (.string .empty),1,16):=by kernel_rfl
def txtCells (l:List Bs):List Value:=l.map fun s=>.string (strOf s)
theorem txtCells_length (l:List Bs):(txtCells l).length=l.length:=List.length_map _
theorem txtCells_append (a b:List Bs):txtCells (a++b)=txtCells a++txtCells b:=List.map_append
def RdS (w:World) (A:Option Addr) (l:List Bs):Prop :=
 0<l.length→∃ b off,A=some ⟨b,off,none⟩∧b<w.heap.size∧∀ j x,l[j]?=some x→w.cell? ⟨b,off+j,none⟩=some (.string (strOf x))
theorem RdS.nil (w:World) (A:Option Addr):RdS w A []:=fun h=>absurd h (by simp)
theorem RdS.below {w w':World} {A:Option Addr} {l:List Bs} (h:RdS w A l) (hb:Below w.heap.size w w'):RdS w' A l:=fun hl=>by
 obtain ⟨b,off,h1,h2,h3⟩:=h hl
 exact ⟨b,off,h1,Nat.lt_of_lt_of_le h2 hb.size,fun j x hx=>(hb.cell (p:=⟨b,off+j,none⟩) h2).trans (h3 j x hx)⟩
theorem RdS.at_ {w:World} {A:Option Addr} {l:List Bs} (h:RdS w A l) {j:Nat} {x:Bs} (hj:l[j]?=some x):∃ b off,A=some ⟨b,off,none⟩∧w.cell? ⟨b,off+j,none⟩=some (.string (strOf x)):=by
 obtain ⟨b,off,h1,_,h3⟩:=h (by have:=(List.getElem?_eq_some_iff.1 hj).1;omega)
 exact ⟨b,off,h1,h3 j x hj⟩
theorem RdS.take {w:World} {A:Option Addr} {l:List Bs} (h:RdS w A l) (k:Nat):RdS w A (l.take k):=by
 intro hl
 rw [List.length_take] at hl
 obtain ⟨b,off,rfl,hlt,hcell⟩:=h (by omega)
 refine ⟨b,off,rfl,hlt,fun j x hx=>hcell j x ?_⟩
 rw [List.getElem?_take] at hx
 split at hx
 ·exact hx
 ·cases hx
theorem txt_under:Tryz.prog.underlying 29=some (.slice (Tryz.prog.elem 29)):=by kernel_rfl
theorem txt_size (w:World):(sizeOf (Tryz.prog.elem 29)).run Tryz.prog w=.ok 1 w:=by kernel_rfl
theorem sls_h (w:World) (A:Option Addr) (len cap n:Nat) (h:n≤cap):(Instr.sliceAt 29 (.slice A len cap) none (some (.int .i64 n)) none).run Tryz.prog w=.ok (.slice A n cap) w:=by
 rw [run_sliceAt_slice w _ _ _ _ _ txt_under,run_slice_h w _ _ _ _ txt_under .i64 n (by omega) (by omega),txt_size]
 have e:∀ a:Addr,a.add 0=a:=fun a=>by unfold Addr.add;simp
 cases A <;> simp [Result.andThen,sliced,e]
def TAt (B:Nat) (v:Value) (l:List Bs) (w0 wr:World):Prop :=
 wr.ownsRow B 9 1 v l.length (txtCells l)∧Below B w0 wr∧B=w0.heap.size
theorem TAt.nil (w:World):TAt w.heap.size (.slice none 0 0) [] w w:=⟨⟨rfl,.inl ⟨rfl,rfl⟩⟩,Below.refl _ _,rfl⟩
theorem TAt.empty (w:World):TAt w.heap.size (.slice (some ⟨w.heap.size,0,none⟩) 0 0) [] w (w.alloc (.cells #[] 9)) :=
 ⟨⟨rfl,.inr ⟨w.heap.size,0,#[],rfl,Nat.le_refl _,heap_alloc_new w _,Nat.le_refl _,by unfold maxLen;omega,rfl,rfl⟩⟩,below_new w _,rfl⟩
theorem owned_below {w wa:World} {B e n:Nat} {v:Value} {xs:List Value} (h:w.ownsRow B e 1 v n xs) (ha:Below w.heap.size w wa):wa.ownsRow B e 1 v n xs:=by
 refine ⟨h.1,?_⟩
 rcases h.2 with h2|⟨g,cap,cur,h3,h4,h5,h6⟩
 ·exact .inl h2
 ·refine .inr ⟨g,cap,cur,h3,h4,(ha.block g ?_).trans h5,h6⟩
  rcases Nat.lt_or_ge g w.heap.size with hlt|hge
  ·exact hlt
  ·rw [Array.getElem?_eq_none hge] at h5;cases h5
theorem TAt.own {B:Nat} {v:Value} {l:List Bs} {w0 wr wa:World} (h:TAt B v l w0 wr) (ha:Below wr.heap.size wr wa):wa.ownsRow B 9 1 v l.length (txtCells l):=owned_below h.1 ha
theorem TAt.push {B:Nat} {v v':Value} {l x:List Bs} {w0 wr wa w':World} (h:TAt B v l w0 wr) (ha:Below wr.heap.size wr wa) (hown:w'.ownsRow B 9 1 v' (l.length+x.length) (txtCells l++txtCells x)) (hg:wa.grownBy w' v.ownBlock):TAt B v' (l++x) w0 w':=by
 refine ⟨by rw [List.length_append,txtCells_append];exact hown,?_,h.2.2⟩
 have hb:Below B w0 wa:=h.2.1.trans (ha.mono (by have:=h.2.1.size;have:=h.2.2;omega))
 exact hb.grown hg (by have:=h.2.1.size;have:=ha.size;have:=h.2.2;omega) (fun k hk=>h.1.ownBlock_ge k hk)
theorem TAt.below {B:Nat} {v:Value} {l:List Bs} {w0 wr w':World} (h:TAt B v l w0 wr) (hb:Below wr.heap.size wr w'):TAt B v l w0 w' :=
 ⟨owned_below h.1 hb,h.2.1.trans (hb.mono (by have:=h.2.1.size;have:=h.2.2;omega)),h.2.2⟩
theorem TAt.later {B:Nat} {v:Value} {l:List Bs} {w0 wr:World} (h:TAt B v l w0 wr):Below w0.heap.size w0 wr:=h.2.2 ▸ h.2.1
theorem TAt.form {B:Nat} {v:Value} {l:List Bs} {w0 wr:World} (h:TAt B v l w0 wr):∃ X c,v=.slice X l.length c∧l.length≤c∧RdS wr X l:=by
 rcases h.1.2 with ⟨rfl,h1⟩|⟨g,cap,cur,rfl,hb,hh,hc,_,hcs,htk⟩
 ·have:l=[]:=List.eq_nil_of_length_eq_zero h1
  subst this
  exact ⟨none,0,rfl,Nat.le_refl _,RdS.nil _ _⟩
 ·refine ⟨_,cap,rfl,hc,fun _=>⟨g,0,rfl,(Array.getElem?_eq_some_iff.1 hh).1,fun j x hx=>?_⟩⟩
  have hj:j<l.length:=(List.getElem?_eq_some_iff.1 hx).1
  rw [cell_of_row wr g _ cur 9 (0,0) hh,Nat.zero_add]
  have e:(cur.toList.take (l.length*1))[j]?=some (.string (strOf x)):=by
   rw [htk];simp [txtCells,hx]
  rw [List.getElem?_take_of_lt (by omega)] at e
  simpa using e
theorem txt_one (l:List Bs):∀ v ∈ txtCells l,v.oneCell'=true:=by
 intro v hv
 simp only [txtCells,List.mem_map] at hv
 obtain ⟨x,_,rfl⟩:=hv
 rfl
theorem run_append_txts (w:World) (base:Nat) (v:Value) (n:Nat) (xs:List Value) (hown:w.ownsRow base 9 1 v n xs) (A:Option Addr) (l:List Bs) (c:Nat) (hr:RdS w A l) (hn:n+l.length≤68719476736) (hbase:base≤w.heap.size) (ty:TypeId) :
    ∃ v' w',(Builtin.append_ #[29,29] ty #[v,.slice A l.length c]).run Tryz.prog w=.ok v' w'∧w'.ownsRow base 9 1 v' (n+l.length) (xs++txtCells l)∧w.grownBy w' v.ownBlock:=by
 obtain ⟨i,hi,hz,hsize,hby⟩:=info_parts Tryz.infoStr
 cases A with
 | none =>
   have hl:l=[]:=by
    rcases Nat.eq_zero_or_pos l.length with h|h
    ·exact List.eq_nil_of_length_eq_zero h
    ·obtain ⟨b,off,h1,_⟩:=hr h
     cases h1
   subst hl
   refine ⟨v,w,?_,by simpa [txtCells] using hown,⟨rfl,rfl,rfl,Nat.le_refl _,fun _ _ _=>rfl⟩⟩
   show (Builtin.append_ #[29,29] ty #[v,.slice none 0 c]).run Tryz.prog w=.ok v w
   have ht:=Tryz.underlying29
   rcases hown.2 with ⟨rfl,rfl⟩|⟨g,cap,cur,rfl,_,_,hnc,_⟩
   ·simp [Builtin.append_,run_underlying ht,sizeOf,typeInfo,hi,Builtin.lenOf,Builtin.firstCells]
   ·simp [Builtin.append_,run_underlying ht,sizeOf,typeInfo,hi,Builtin.lenOf,Builtin.firstCells,hnc,storeCells]
 | some ad =>
   have hc:∀ j u,(txtCells l)[j]?=some u→w.cell? (ad.add j)=some u:=by
    intro j u hu
    simp only [txtCells,List.getElem?_map,Option.map_eq_some_iff] at hu
    obtain ⟨x,hx,rfl⟩:=hu
    obtain ⟨b,off,h1,_,h2⟩:=hr (by have:=(List.getElem?_eq_some_iff.1 hx).1;omega)
    obtain rfl:ad=⟨b,off,none⟩:=by injection h1
    rw [add_plain]
    exact h2 j x hx
   obtain ⟨v',w',h1,h2,h3,_⟩:=run_append_own (P:=Tryz.prog) (w:=w) base 29 ty 9 i (.string .empty) 1 16 Tryz.underlying29 hi hz hsize hby rfl (by decide) v n xs hown ad l.length c (txtCells l) (by simp [txtCells_length]) hc (txt_one l) (by unfold maxLen;omega) (by omega) hbase
   exact ⟨v',w',h1,h2,h3⟩
theorem wpList_append_txts {w:World} {ops:Array Oper} {rest:List Oper} {o:Oper} {a:Act} {Q:Exit→Act→World→Prop} (hgd:Region.wanted o (yielded ops a.tmps)=true) (s x:Operand)
    (ho:o.op=.call { callee:=.builtin .append,args:=#[s,x],argTypes:=#[29,29] })
    {B:Nat} {v:Value} {l:List Bs} {w0 wr:World} (hs:a.eval s=v) (hI:TAt B v l w0 wr) (hw:Below wr.heap.size wr w) (A:Option Addr) (y:List Bs) (m c:Nat) (hm:y.length=m) (hx:a.eval x=.slice A m c) (hr:RdS w A y) (hn:l.length+y.length≤68719476736)
    (h:∀ v' w',Hid (TAt B v' (l++y) w0 w')→Hid (w.grownBy w' v.ownBlock)→wpList Tryz.prog ops Q rest (a.put o.dst v') w'):wpList Tryz.prog ops Q (o :: rest) a w:=by
 subst hm
 refine wpList_step fun K hK=>?_
 rw [if_pos hgd]
 obtain ⟨v',w',hrun,h1,h2⟩:=run_append_txts w B v l.length (txtCells l) (hI.own hw) A y c hr hn (by have:=hI.2.1.size;have:=hI.2.2;have:=hw.size;omega) o.type
 unfold Oper.wp
 simp [execOp,ho,resolve,invoke,builtin,hs,hx,hrun,Result.andThen]
 exact hK _ _ (h v' w' (hI.push hw h1 h2) h2)
theorem rds_one (w:World) (x:Bs) (t:TypeId):RdS (w.alloc (.cells #[.string (strOf x)] t)) (some ⟨w.heap.size,0,none⟩) [x]:=by
 intro _
 refine ⟨_,_,rfl,by rw [World.size_alloc];omega,fun j y hy=>?_⟩
 have hj:j=0:=by
  have:=(List.getElem?_eq_some_iff.1 hy).1
  simp at this
  exact this
 subst hj
 obtain rfl:x=y:=by simpa using hy
 rw [World.cell?_alloc_at _ _ _ _ rfl]
 rfl
end Go.Proofs.YtbnpgakmhhfjkaaGreatDoor
namespace Go.Proofs.YtbnpgakmhhfjkaaGreatDoor
open Go.RowKit
namespace Tr
abbrev Nm:=Bs × Int
structure En where
 nd:Nd
 data:Bs
 names:List Nm
abbrev T:=List En
/-! Texts in their order. -/
def less (a b:Bs):Bool:=Op.bytesLess a b
theorem less_eq:∀ (a b:Bs),less a b=decide (a<b)
 | [],[]=>by simp [less,Op.bytesLess]
 | _ :: _,[]=>by simp [less,Op.bytesLess]
 | [],_ :: _=>by simp [less,Op.bytesLess]
 | a :: x,b :: y=>by
   have h:=less_eq x y
   unfold less at h ⊢
   rw [Op.bytesLess,h]
   by_cases h1:a<b
   ·simp [h1,List.cons_lt_cons_iff]
   ·by_cases h2:a=b
    ·subst h2;simp [List.cons_lt_cons_iff]
    ·simp [h1,h2,List.cons_lt_cons_iff]
theorem less_self (a:Bs):less a a=false:=by rw [less_eq];simp
theorem less_trans {a b c:Bs} (h:less a b=true) (k:less b c=true):less a c=true:=by
 rw [less_eq] at *
 simp only [decide_eq_true_eq] at *
 exact List.lt_trans h k
theorem less_asym {a b:Bs} (h:less a b=true):less b a=false:=by
 cases k:less b a
 ·rfl
 ·have:=less_trans h k
  rw [less_self] at this
  cases this
theorem less_tri {a b:Bs} (h:less a b=false) (k:less b a=false):a=b:=by
 rw [less_eq] at *
 simp only [decide_eq_false_iff_not] at *
 exact List.le_antisymm k h
theorem less_ne {a b:Bs} (h:less a b=true):a≠b:=by
 rintro rfl
 rw [less_self] at h
 cases h
/-! Names of one directory. -/
def get (l:List Nm) (x:Bs):Option Int:=(l.find? fun n=>n.1==x).map (·.2)
def ins (l:List Nm) (x:Bs) (k:Int):List Nm :=
 match l with
 | []=>[(x,k)]
 | n :: l=>if less n.1 x then n :: ins l x k else (x,k) :: n :: l
def del (l:List Nm) (x:Bs):List Nm:=l.filter fun n=>!(n.1==x)
def strike (l:List Nm) (k:Int):List Nm:=l.filter fun n=>!(n.2==k)
/-! Nodes by their ID. -/
def find (t:T) (i:Int):Option En:=t.find? fun e=>e.nd.id==i
def kids (t:T) (i:Int):List Nm:=((find t i).map (·.names)).getD []
def ndOf (t:T) (i:Int):Nd:=((find t i).map (·.nd)).getD Nd.zero
def kindOf (t:T) (i:Int):Int:=(ndOf t i).kind
def upd (t:T) (i:Int) (f:En→En):T:=t.map fun e=>if e.nd.id==i then f e else e
def remove (t:T) (i:Int):T:=t.filter fun e=>!(e.nd.id==i)
def insE (t:T) (n:En):T :=
 match t with
 | []=>[n]
 | e :: t=>if e.nd.id<n.nd.id then e :: insE t n else n :: e :: t
def freeFrom:Int→T→Int
 | i,[]=>i
 | i,e :: t=>if e.nd.id=i then freeFrom (i+1) t else i
def free (t:T):Int:=freeFrom 0 t
def put (t:T) (d:Int) (x:Bs) (k:Int):T:=upd t d fun e=>{ e with names:=ins e.names x k }
def cut (t:T) (d:Int) (x:Bs):T:=upd t d fun e=>{ e with names:=del e.names x }
def more (t:T) (i:Int) (by_:Int):T:=upd t i fun e=>{ e with nd:={ e.nd with links:=e.nd.links+by_ } }
def fresh (id kind:Int):En:=⟨⟨id,kind,1,0,0,kind==2⟩,[],[]⟩
def new:T:=[fresh 0 2]
/-! Paths. -/
def formed (p:List Bs):Nat:=if p.all Pa.good then (if 8<p.length then 3 else 0) else 12
def lookF (t:T):Int→List Bs→Int × Nat
 | i,[]=>(i,0)
 | i,x :: p=>if kindOf t i≠2 then (0,23) else match get (kids t i) x with
   | none=>(0,20)
   | some k=>lookF t k p
def look (t:T) (p:List Bs):Int × Nat:=if formed p≠0 then (0,formed p) else lookF t 0 p
def place (t:T) (p:List Bs):Int × Bs × Nat :=
 if p=[] then (0,[],1)
 else if (lookF t 0 p.dropLast).2≠0 then (0,[],(lookF t 0 p.dropLast).2)
 else if kindOf t (lookF t 0 p.dropLast).1≠2 then (0,[],23)
 else ((lookF t 0 p.dropLast).1,p.getLastD [],0)
def high (t:T):Nat→Int→Nat
 | 0,_=>0
 | n+1,i=>(kids t i).foldl (fun m k=>max m (1+high t n k.2)) 0
def walk (t:T):Nat→Int→List Bs→List (List Bs × Int)
 | 0,_,_=>[]
 | n+1,i,p=>(kids t i).flatMap fun k=>(p++[k.1],k.2) :: walk t n k.2 (p++[k.1])
def within (l of_:List Bs):Bool:=of_.isPrefixOf l
/-! The calls. -/
def make (t:T) (p:List Bs) (kind:Int):(Int × Nat) × T :=
 if formed p≠0 then ((0,formed p),t)
 else if kind≠1∧kind≠2 then ((0,30),t)
 else if (place t p).2.2≠0 then ((0,(place t p).2.2),t)
 else if (get (kids t (place t p).1) (place t p).2.1).isSome then ((0,21),t)
 else if 64≤t.length then ((0,4),t)
 else ((free t,0),put (insE t (fresh (free t) kind)) (place t p).1 (place t p).2.1 (free t))
def node (t:T) (i:Int):Nd × Bool:=(ndOf t i,(find t i).isSome)
def list (t:T) (i:Int):List Bs × Nat :=
 if (find t i).isNone then ([],20)
 else if kindOf t i≠2 then ([],23)
 else ((kids t i).map (·.1),0)
def link (t:T) (p z:List Bs):Nat × T :=
 if formed p≠0 then (formed p,t)
 else if formed z≠0 then (formed z,t)
 else if (lookF t 0 p).2≠0 then ((lookF t 0 p).2,t)
 else if kindOf t (lookF t 0 p).1=2 then (22,t)
 else if (place t z).2.2≠0 then ((place t z).2.2,t)
 else if (get (kids t (place t z).1) (place t z).2.1).isSome then (21,t)
 else if 64≤(ndOf t (lookF t 0 p).1).links then (4,t)
 else (0,more (put t (place t z).1 (place t z).2.1 (lookF t 0 p).1) (lookF t 0 p).1 1)
def unlinked (t:T) (p:List Bs):T:=more (cut t (place t p).1 (place t p).2.1) (lookF t 0 p).1 (-1)
def unlink (t:T) (p:List Bs):Nat × T :=
 if formed p≠0 then (formed p,t)
 else if (lookF t 0 p).2≠0 then ((lookF t 0 p).2,t)
 else if kindOf t (lookF t 0 p).1=2 then (22,t)
 else if (ndOf t (lookF t 0 p).1).links=1∧(ndOf t (lookF t 0 p).1).shut=true then (0,remove (unlinked t p) (lookF t 0 p).1)
 else (0,unlinked t p)
def rmdir (t:T) (p:List Bs):Nat × T :=
 if formed p≠0 then (formed p,t)
 else if (lookF t 0 p).2≠0 then ((lookF t 0 p).2,t)
 else if kindOf t (lookF t 0 p).1≠2 then (23,t)
 else if p=[] then (1,t)
 else if kids t (lookF t 0 p).1≠[] then (24,t)
 else (0,remove (cut t (place t p).1 (place t p).2.1) (lookF t 0 p).1)
def rename (t:T) (p z:List Bs):Nat × T :=
 if formed p≠0 then (formed p,t)
 else if formed z≠0 then (formed z,t)
 else if (lookF t 0 p).2≠0 then ((lookF t 0 p).2,t)
 else if p=[] then (1,t)
 else if (place t z).2.2≠0 then ((place t z).2.2,t)
 else if kindOf t (lookF t 0 p).1=2∧within z p=true then (1,t)
 else if get (kids t (place t z).1) (place t z).2.1=some (lookF t 0 p).1 then (0,t)
 else if (get (kids t (place t z).1) (place t z).2.1).isSome then (21,t)
 else if 8<z.length+high t 64 (lookF t 0 p).1 then (3,t)
 else (0,put (cut t (place t p).1 (place t p).2.1) (place t z).1 (place t z).2.1 (lookF t 0 p).1)
def file (t:T) (i:Int):Nat:=if (find t i).isNone then 20 else if kindOf t i=2 then 22 else 0
def append (t:T) (i:Int) (b:Bs):Nat × T :=
 if file t i≠0 then (file t i,t)
 else if (ndOf t i).shut=true then (27,t)
 else if 4096-(ndOf t i).size<(b.length:Int) then (15,t)
 else (0,upd t i fun e=>{ e with data:=e.data++b,nd:={ e.nd with size:=((e.data++b).length:Nat) } })
def dataOf (t:T) (i:Int):Bs:=((find t i).map (·.data)).getD []
def read (t:T) (i at_ n:Int):Bs × Nat :=
 if file t i≠0 then ([],file t i)
 else if at_<0∨n<0 then ([],1)
 else (((dataOf t i).drop at_.toNat).take n.toNat,0)
def shutE (until_:Nat) (e:En):En:={ e with nd:={ e.nd with shut:=true,till:=until_ } }
def seal_ (t:T) (i:Int) (until_:Nat):Nat × T :=
 if file t i≠0 then (file t i,t)
 else if (ndOf t i).shut=true then (27,t)
 else if 1099511627776<until_ then (1,t)
 else if (ndOf t i).links=0 then (0,remove (upd t i (shutE until_)) i)
 else (0,upd t i (shutE until_))
def keep (t:T) (i:Int) (until_:Nat):Nat × T :=
 if file t i≠0 then (file t i,t)
 else if (ndOf t i).shut=false then (25,t)
 else if until_<(ndOf t i).till then (28,t)
 else if 1099511627776<until_ then (1,t)
 else (0,upd t i fun e=>{ e with nd:={ e.nd with till:=until_ } })
def drop (t:T) (i:Int):Nat × T :=
 if file t i≠0 then (file t i,t)
 else if (ndOf t i).shut=true then (27,t)
 else (0,remove (t.map fun e=>{ e with names:=strike e.names i }) i)
/-! As bytes. -/
def nameBytes (n:Nm):Bs:=Co.wBytes n.1++Co.wShort (Nd.lo16 n.2)
def enBytes (e:En):Bs:=Co.wBytes e.nd.bytes++(Co.wBytes e.data++(Co.wShort e.names.length++e.names.flatMap nameBytes))
def save (t:T):Bs:=Co.wShort t.length++t.flatMap enBytes
/-! What is right. -/
structure EnOk (e:En):Prop where
 nd:e.nd.Right
 size:e.nd.size=(e.data.length:Nat)
 rise:e.names.Pairwise fun a b=>less a.1 b.1=true
 good:∀ n ∈ e.names,Pa.good n.1=true
 file:e.nd.kind=1→e.names=[]
def flat (t:T):List (Int × Nm):=t.flatMap fun e=>e.names.map fun n=>(e.nd.id,n)
def count (t:T) (i:Int):Nat:=(flat t).countP fun x=>x.2.2==i
structure Good (t:T):Prop where
 root:∃ r rest,t=r :: rest∧r.nd.id=0∧r.nd.kind=2
 rise:t.Pairwise fun a b=>a.nd.id<b.nd.id
 few:t.length≤64
 each:∀ e ∈ t,EnOk e
 leads:∀ e ∈ t,∀ n ∈ e.names,n.2≠0∧(find t n.2).isSome=true
 linked:∀ e ∈ t,(count t e.nd.id:Int)+(if e.nd.id=0 then 1 else 0)=e.nd.links
 dirs:∀ e ∈ t,e.nd.kind=2→e.nd.links=1
 shut:∀ e ∈ t,e.nd.shut=true→e.nd.links≠0
 deep:∃ dep:Int→Nat,dep 0=0∧∀ e ∈ t,∀ n ∈ e.names,dep e.nd.id+1≤8∧(kindOf t n.2=2→dep n.2=dep e.nd.id+1)
end Tr
end Go.Proofs.YtbnpgakmhhfjkaaGreatDoor
namespace Go.Proofs.YtbnpgakmhhfjkaaGreatDoor
open Go.RowKit
namespace Tr
/-! Names of one directory. -/
theorem get_nil (x:Bs):get [] x=none:=rfl
theorem get_cons (n:Nm) (l:List Nm) (x:Bs):get (n :: l) x=if n.1=x then some n.2 else get l x:=by
 unfold get
 rw [List.find?_cons]
 by_cases h:n.1=x
 ·rw [if_pos h,beq_iff_eq.2 h];rfl
 ·rw [if_neg h,beq_eq_false_iff_ne.2 h]
theorem get_mem {l:List Nm} {x:Bs} {k:Int} (h:get l x=some k):(x,k) ∈ l:=by
 induction l with
 | nil=>cases h
 | cons n l ih =>
   rw [get_cons] at h
   by_cases h1:n.1=x
   ·rw [if_pos h1] at h
    obtain ⟨a,b⟩:=n
    simp only [Option.some.injEq] at h h1
    subst h h1
    exact .head _
   ·rw [if_neg h1] at h
    exact .tail _ (ih h)
def Rise (l:List Nm):Prop:=l.Pairwise fun a b=>less a.1 b.1=true
theorem get_of_mem {l:List Nm} (hr:Rise l) {n:Nm} (h:n ∈ l):get l n.1=some n.2:=by
 induction l with
 | nil=>cases h
 | cons m l ih =>
   rw [get_cons]
   rcases List.mem_cons.1 h with rfl|h1
   ·rw [if_pos rfl]
   ·have:=(List.pairwise_cons.1 hr).1 n h1
    rw [if_neg (less_ne this),ih (List.pairwise_cons.1 hr).2 h1]
theorem get_none {l:List Nm} {x:Bs}:get l x=none↔∀ n ∈ l,n.1≠x:=by
 induction l with
 | nil=>simp [get_nil]
 | cons m l ih =>
   rw [get_cons]
   by_cases h:m.1=x
   ·simp [h]
   ·rw [if_neg h,ih];simp [h]
theorem ins_perm (l:List Nm) (x:Bs) (k:Int):(ins l x k).Perm ((x,k) :: l):=by
 induction l with
 | nil=>exact .refl _
 | cons n l ih =>
   unfold ins
   split
   ·exact (ih.cons n).trans (.swap _ _ _)
   ·exact .refl _
theorem ins_mem {l:List Nm} {x:Bs} {k:Int} {n:Nm}:n ∈ ins l x k↔n=(x,k)∨n ∈ l:=by
 rw [(ins_perm l x k).mem_iff,List.mem_cons]
theorem ins_rise {l:List Nm} (hr:Rise l) {x:Bs} (k:Int) (h:get l x=none):Rise (ins l x k):=by
 induction l with
 | nil=>exact List.pairwise_singleton _ _
 | cons n l ih =>
   have hr2:=List.pairwise_cons.1 hr
   have hn:=get_none.1 h
   unfold ins
   split
   ·rename_i h1
    refine List.pairwise_cons.2 ⟨fun m hm=>?_,ih hr2.2 (get_none.2 fun m hm=>hn m (.tail _ hm))⟩
    rcases ins_mem.1 hm with rfl|hm
    ·exact h1
    ·exact hr2.1 m hm
   ·rename_i h1
    have h2:less x n.1=true:=by
     cases h3:less x n.1
     ·exact absurd (less_tri (by simpa using h1) h3) (hn n (.head _))
     ·rfl
    refine List.pairwise_cons.2 ⟨fun m hm=>?_,hr⟩
    rcases List.mem_cons.1 hm with rfl|hm
    ·exact h2
    ·exact less_trans h2 (hr2.1 m hm)
theorem get_ins {l:List Nm} (hr:Rise l) {x:Bs} (k:Int) (h:get l x=none) (y:Bs):get (ins l x k) y=if y=x then some k else get l y:=by
 have hi:=ins_rise hr k h
 by_cases hy:y=x
 ·rw [if_pos hy,hy]
  exact get_of_mem hi (n:=(x,k)) (ins_mem.2 (.inl rfl))
 ·rw [if_neg hy]
  cases hg:get l y with
  | none =>
    refine get_none.2 fun n hn=>?_
    rcases ins_mem.1 hn with rfl|hn
    ·exact fun e=>hy e.symm
    ·exact get_none.1 hg n hn
  | some j=>exact get_of_mem hi (n:=(y,j)) (ins_mem.2 (.inr (get_mem hg)))
theorem del_rise {l:List Nm} (hr:Rise l) (x:Bs):Rise (del l x):=hr.filter _
theorem strike_rise {l:List Nm} (hr:Rise l) (k:Int):Rise (strike l k):=hr.filter _
theorem get_del {l:List Nm} (x y:Bs):get (del l x) y=if y=x then none else get l y:=by
 induction l with
 | nil=>simp [del,get_nil]
 | cons n l ih =>
   unfold del at ih ⊢
   rw [List.filter_cons]
   by_cases h:n.1=x
   ·rw [if_neg (by simp [h]),ih,get_cons]
    by_cases hy:y=x
    ·rw [if_pos hy,if_pos hy]
    ·rw [if_neg hy,if_neg hy,if_neg (by rw [h];exact fun e=>hy e.symm)]
   ·rw [if_pos (by simp [h]),get_cons,ih,get_cons]
    by_cases hy:y=x
    ·subst hy;rw [if_neg h,if_pos rfl,if_pos rfl]
    ·rw [if_neg hy,if_neg hy]
theorem del_perm {l:List Nm} (hr:Rise l) {x:Bs} {k:Int} (h:get l x=some k):l.Perm ((x,k) :: del l x):=by
 induction l with
 | nil=>cases h
 | cons n l ih =>
   have hr2:=List.pairwise_cons.1 hr
   rw [get_cons] at h
   by_cases h1:n.1=x
   ·rw [if_pos h1] at h
    obtain ⟨a,b⟩:=n
    simp only [Option.some.injEq] at h h1
    subst h h1
    have e:del ((a,b) :: l) a=l:=by
     unfold del
     rw [List.filter_cons,if_neg (by simp),List.filter_eq_self]
     intro m hm
     have:=less_ne (hr2.1 m hm)
     simpa using fun e=>this e.symm
    rw [e]
   ·rw [if_neg h1] at h
    have e:del (n :: l) x=n :: del l x:=by
     unfold del
     rw [List.filter_cons,if_pos (by simp [h1])]
    rw [e]
    exact ((ih hr2.2 h).cons n).trans (.swap _ _ _)
/-! Nodes by their ID. -/
def Ris (t:T):Prop:=t.Pairwise fun a b=>a.nd.id<b.nd.id
theorem find_cons (e:En) (t:T) (i:Int):find (e :: t) i=if e.nd.id=i then some e else find t i:=by
 unfold find
 rw [List.find?_cons]
 by_cases h:e.nd.id=i
 ·rw [if_pos h,beq_iff_eq.2 h]
 ·rw [if_neg h,beq_eq_false_iff_ne.2 h]
theorem find_some {t:T} {i:Int} {e:En} (h:find t i=some e):e ∈ t∧e.nd.id=i:=by
 unfold find at h
 exact ⟨List.mem_of_find?_eq_some h,by simpa using List.find?_some h⟩
theorem find_none {t:T} {i:Int}:find t i=none↔∀ e ∈ t,e.nd.id≠i:=by
 unfold find
 rw [List.find?_eq_none]
 simp
theorem Ris.find {t:T} (hr:Ris t) {e:En} (h:e ∈ t):find t e.nd.id=some e:=by
 induction t with
 | nil=>cases h
 | cons a t ih =>
   rw [find_cons]
   rcases List.mem_cons.1 h with rfl|h1
   ·rw [if_pos rfl]
   ·have:=(List.pairwise_cons.1 hr).1 e h1
    rw [if_neg (by omega),ih (List.pairwise_cons.1 hr).2 h1]
theorem Ris.split {t:T} (hr:Ris t) {i:Int} {e:En} (h:Tr.find t i=some e):∃ A B,t=A++e :: B∧e.nd.id=i∧(∀ a ∈ A,a.nd.id<i)∧(∀ b ∈ B,i<b.nd.id):=by
 obtain ⟨hm,rfl⟩:=find_some h
 obtain ⟨A,B,rfl⟩:=List.append_of_mem hm
 have h2:=List.pairwise_append.1 hr
 exact ⟨A,B,rfl,rfl,fun a ha=>h2.2.2 a ha e (.head _),(List.pairwise_cons.1 h2.2.1).1⟩
theorem upd_none {t:T} {i:Int} (h:∀ e ∈ t,e.nd.id≠i) (f:En→En):upd t i f=t:=by
 unfold upd
 conv=>rhs;rw [← List.map_id t]
 apply List.map_congr_left
 intro e he
 rw [if_neg (by simpa using h e he)]
 rfl
theorem upd_app (A B:T) (i:Int) (f:En→En):upd (A++B) i f=upd A i f++upd B i f:=List.map_append
theorem upd_split {A B:T} {e:En} {i:Int} (he:e.nd.id=i) (hA:∀ a ∈ A,a.nd.id<i) (hB:∀ b ∈ B,i<b.nd.id) (f:En→En):upd (A++e :: B) i f=A++f e :: B:=by
 rw [upd_app,upd_none (fun a ha=>by have:=hA a ha;omega)]
 have e1:upd (e :: B) i f=f e :: upd B i f:=by
  show (if e.nd.id==i then f e else e) :: _=_
  rw [if_pos (by simpa using he)];rfl
 rw [e1,upd_none (fun b hb=>by have:=hB b hb;omega)]
theorem remove_split {A B:T} {e:En} {i:Int} (he:e.nd.id=i) (hA:∀ a ∈ A,a.nd.id<i) (hB:∀ b ∈ B,i<b.nd.id):remove (A++e :: B) i=A++B:=by
 unfold remove
 rw [List.filter_append,List.filter_cons,if_neg (by simp [he]),List.filter_eq_self.2 (fun a ha=>by have:=hA a ha;simp;omega),List.filter_eq_self.2 (fun b hb=>by have:=hB b hb;simp;omega)]
theorem upd_length (t:T) (i:Int) (f:En→En):(upd t i f).length=t.length:=List.length_map _
theorem find_upd {t:T} {i:Int} {f:En→En} (hf:∀ e,(f e).nd.id=e.nd.id) (j:Int):find (upd t i f) j=(find t j).map fun e=>if j=i then f e else e:=by
 induction t with
 | nil=>rfl
 | cons e t ih =>
   show find ((if e.nd.id==i then f e else e) :: upd t i f) j=_
   rw [find_cons,find_cons]
   have hid:(if e.nd.id==i then f e else e).nd.id=e.nd.id:=by split <;> simp [hf]
   rw [hid]
   by_cases h:e.nd.id=j
   ·rw [if_pos h,if_pos h,← h];simp
   ·rw [if_neg h,if_neg h,ih]
theorem find_remove (t:T) (i j:Int):find (remove t i) j=if j=i then none else find t j:=by
 induction t with
 | nil=>simp [remove,find]
 | cons e t ih =>
   unfold remove at ih ⊢
   rw [List.filter_cons]
   by_cases h:e.nd.id=i
   ·rw [if_neg (by simp [h]),ih,find_cons]
    by_cases hj:j=i
    ·rw [if_pos hj,if_pos hj]
    ·rw [if_neg hj,if_neg hj,if_neg (by omega)]
   ·rw [if_pos (by simp [h]),find_cons,ih,find_cons]
    by_cases hj:j=i
    ·rw [if_pos hj,if_pos hj,if_neg (by omega)]
    ·rw [if_neg hj,if_neg hj]
theorem insE_perm (t:T) (n:En):(insE t n).Perm (n :: t):=by
 induction t with
 | nil=>exact .refl _
 | cons e t ih =>
   unfold insE
   split
   ·exact (ih.cons e).trans (.swap _ _ _)
   ·exact .refl _
theorem insE_mem {t:T} {n e:En}:e ∈ insE t n↔e=n∨e ∈ t:=by
 rw [(insE_perm t n).mem_iff,List.mem_cons]
theorem insE_length (t:T) (n:En):(insE t n).length=t.length+1:=(insE_perm t n).length_eq
theorem insE_ris {t:T} (hr:Ris t) {n:En} (h:∀ e ∈ t,e.nd.id≠n.nd.id):Ris (insE t n):=by
 induction t with
 | nil=>exact List.pairwise_singleton _ _
 | cons e t ih =>
   have hr2:=List.pairwise_cons.1 hr
   unfold insE
   split
   ·rename_i h1
    refine List.pairwise_cons.2 ⟨fun m hm=>?_,ih hr2.2 fun m hm=>h m (.tail _ hm)⟩
    rcases insE_mem.1 hm with rfl|hm
    ·exact h1
    ·exact hr2.1 m hm
   ·rename_i h1
    have h2:n.nd.id<e.nd.id:=by have:=h e (.head _);omega
    refine List.pairwise_cons.2 ⟨fun m hm=>?_,hr⟩
    rcases List.mem_cons.1 hm with rfl|hm
    ·exact h2
    ·have:=hr2.1 m hm;omega
theorem find_insE {t:T} (hr:Ris t) {n:En} (h:∀ e ∈ t,e.nd.id≠n.nd.id) (j:Int):find (insE t n) j=if j=n.nd.id then some n else find t j:=by
 have hi:=insE_ris hr h
 by_cases hj:j=n.nd.id
 ·rw [if_pos hj,hj]
  exact hi.find (insE_mem.2 (.inl rfl))
 ·rw [if_neg hj]
  cases hg:find t j with
  | none =>
    refine find_none.2 fun e he=>?_
    rcases insE_mem.1 he with rfl|he
    ·exact fun e2=>hj e2.symm
    ·exact find_none.1 hg e he
  | some e =>
    obtain ⟨h1,rfl⟩:=find_some hg
    exact hi.find (insE_mem.2 (.inr h1))
theorem freeFrom_spec (t:T) (hr:Ris t) (i:Int) (h:∀ e ∈ t,i≤e.nd.id):∃ k:Nat,freeFrom i t=i+k∧k≤t.length∧(∀ e ∈ t,e.nd.id≠i+k)∧(∀ j:Nat,j<k→(t[j]?).map (·.nd.id)=some (i+j))∧(∀ j:Nat,k≤j→∀ e,t[j]?=some e→i+k<e.nd.id):=by
 induction t generalizing i with
 | nil=>exact ⟨0,by simp [freeFrom],by simp,by simp,by simp,by simp⟩
 | cons e t ih =>
   have hr2:=List.pairwise_cons.1 hr
   by_cases h1:e.nd.id=i
   ·obtain ⟨k,h2,h3,h4,h5,h6⟩:=ih hr2.2 (i+1) fun m hm=>by have:=hr2.1 m hm;omega
    refine ⟨k+1,by rw [freeFrom,if_pos h1,h2];omega,by simp only [List.length_cons];omega,fun m hm=>?_,fun j hj=>?_,fun j hj m hm=>?_⟩
    ·rcases List.mem_cons.1 hm with rfl|hm
     ·omega
     ·have:=h4 m hm;omega
    ·cases j with
     | zero=>simp [h1]
     | succ j =>
       have:=h5 j (by omega)
       simp only [List.getElem?_cons_succ,this]
       congr 1;omega
    ·cases j with
     | zero=>omega
     | succ j =>
       have:=h6 j (by omega) m (by simpa using hm)
       omega
   ·have h2:=h e (.head _)
    refine ⟨0,by rw [freeFrom,if_neg h1];simp,by omega,fun m hm=>?_,fun j hj=>by omega,fun j hj m hm=>?_⟩
    ·rcases List.mem_cons.1 hm with rfl|hm
     ·omega
     ·have:=hr2.1 m hm;omega
    ·cases j with
     | zero =>
       obtain rfl:e=m:=by simpa using hm
       omega
     | succ j =>
       have:=hr2.1 m (List.mem_of_getElem? (by simpa using hm))
       omega
end Tr
end Go.Proofs.YtbnpgakmhhfjkaaGreatDoor
namespace Go.Proofs.YtbnpgakmhhfjkaaGreatDoor
open Go.RowKit
namespace Tr
variable {t:T}
theorem Good.ris (h:Good t):Ris t:=h.rise
theorem find_isSome {i:Int}:(find t i).isSome=true↔∃ e ∈ t,e.nd.id=i:=by
 cases hf:find t i with
 | none =>
   simp only [Option.isSome_none,Bool.false_eq_true,false_iff]
   rintro ⟨e,he,h⟩
   exact find_none.1 hf e he h
 | some e =>
   obtain ⟨h1,h2⟩:=find_some hf
   simp only [Option.isSome_some,true_iff]
   exact ⟨e,h1,h2⟩
theorem kids_of {i:Int} {e:En} (h:find t i=some e):kids t i=e.names:=by unfold kids;rw [h];rfl
theorem ndOf_of {i:Int} {e:En} (h:find t i=some e):ndOf t i=e.nd:=by unfold ndOf;rw [h];rfl
theorem kindOf_of {i:Int} {e:En} (h:find t i=some e):kindOf t i=e.nd.kind:=by unfold kindOf;rw [ndOf_of h]
theorem dataOf_of {i:Int} {e:En} (h:find t i=some e):dataOf t i=e.data:=by unfold dataOf;rw [h];rfl
theorem kindOf_no {i:Int} (h:find t i=none):kindOf t i=0:=by unfold kindOf ndOf;rw [h];rfl
theorem kids_no {i:Int} (h:find t i=none):kids t i=[]:=by unfold kids;rw [h];rfl
theorem Good.zero (h:Good t):∃ r,find t 0=some r∧r.nd.kind=2∧r.nd.id=0:=by
 obtain ⟨r,rest,rfl,h1,h2⟩:=h.root
 exact ⟨r,by rw [find_cons,if_pos h1],h2,h1⟩
theorem Good.kind (h:Good t) {e:En} (he:e ∈ t):e.nd.kind=1∨e.nd.kind=2:=by
 have:=(h.each e he).nd
 exact this.2.2.2.2.2.2.2.imp id fun k=>k.1
theorem Good.has (h:Good t) {i:Int} (hk:kindOf t i=2):∃ e,find t i=some e:=by
 cases hf:find t i with
 | none=>rw [kindOf_no hf] at hk;omega
 | some e=>exact ⟨e,rfl⟩
theorem kids_mem {i:Int} {n:Nm} (h:n ∈ kids t i):∃ e,find t i=some e∧n ∈ e.names:=by
 cases hf:find t i with
 | none=>rw [kids_no hf] at h;cases h
 | some e=>rw [kids_of hf] at h;exact ⟨e,rfl,h⟩
theorem Good.rises (h:Good t) (i:Int):Rise (kids t i):=by
 cases hf:find t i with
 | none=>rw [kids_no hf];exact List.Pairwise.nil
 | some e=>rw [kids_of hf];exact (h.each e (find_some hf).1).rise
theorem Good.leads_to (h:Good t) {i:Int} {n:Nm} (hn:n ∈ kids t i):n.2≠0∧(find t n.2).isSome=true:=by
 obtain ⟨e,he,h1⟩:=kids_mem hn
 exact h.leads e (find_some he).1 n h1
theorem Good.file_kids (h:Good t) {i:Int} (hk:kindOf t i≠2):kids t i=[]:=by
 cases hf:find t i with
 | none=>exact kids_no hf
 | some e =>
   rw [kids_of hf]
   rw [kindOf_of hf] at hk
   refine (h.each e (find_some hf).1).file ?_
   rcases h.kind (find_some hf).1 with h1|h1
   ·exact h1
   ·exact absurd h1 hk
/-! How many names there are. -/
theorem flat_mem {x:Int × Nm}:x ∈ flat t↔∃ e ∈ t,e.nd.id=x.1∧x.2 ∈ e.names:=by
 unfold flat
 rw [List.mem_flatMap]
 constructor
 ·rintro ⟨e,he,hx⟩
  obtain ⟨n,hn,rfl⟩:=List.mem_map.1 hx
  exact ⟨e,he,rfl,hn⟩
 ·rintro ⟨e,he,h1,h2⟩
  exact ⟨e,he,List.mem_map.2 ⟨x.2,h2,by rw [h1]⟩⟩
theorem countP_sum {α:Type} (f:α→Int) (I:List Int):∀ L:List α,(∀ x ∈ L,f x ∈ I)→L.length≤(I.map fun i=>L.countP fun x=>f x==i).sum
 | [],_=>Nat.zero_le _
 | x :: L,h=>by
   have ih:=countP_sum f I L fun y hy=>h y (.tail _ hy)
   have hx:=h x (.head _)
   have key:∀ J:List Int,(J.map fun i=>L.countP fun x=>f x==i).sum≤(J.map fun i=>(x :: L).countP fun x=>f x==i).sum∧(f x ∈ J→(J.map fun i=>L.countP fun x=>f x==i).sum+1≤(J.map fun i=>(x :: L).countP fun x=>f x==i).sum):=by
    intro J
    induction J with
    | nil=>exact ⟨Nat.le_refl _,fun h=>by cases h⟩
    | cons j J ih2 =>
      simp only [List.map_cons,List.sum_cons]
      have h1:List.countP (fun x=>f x==j) L≤List.countP (fun x=>f x==j) (x :: L):=by rw [List.countP_cons];omega
      refine ⟨by have:=ih2.1;omega,fun hm=>?_⟩
      by_cases e:f x=j
      ·have h2:List.countP (fun x=>f x==j) (x :: L)=List.countP (fun x=>f x==j) L+1:=by rw [List.countP_cons,if_pos (by simpa using e)]
       have:=ih2.1
       omega
      ·rcases List.mem_cons.1 hm with h3|h3
       ·exact absurd h3 e
       ·have:=ih2.2 h3
        omega
   have:=(key I).2 hx
   simp only [List.length_cons]
   omega
theorem Good.flat_le (h:Good t):(flat t).length≤4194240:=by
 have h1:=countP_sum (fun x:Int × Nm=>x.2.2) (t.map fun e=>e.nd.id) (flat t) fun x hx=>by
  obtain ⟨e,he,_,h2⟩:=flat_mem.1 hx
  obtain ⟨_,h3⟩:=h.leads e he x.2 h2
  obtain ⟨e',h4,h5⟩:=find_isSome.1 h3
  exact List.mem_map.2 ⟨e',h4,h5⟩
 have h2:((t.map fun e=>e.nd.id).map fun i=>(flat t).countP fun x=>x.2.2==i).sum≤t.length*65535:=by
  have key:∀ u:T,(∀ e ∈ u,e ∈ t)→((u.map fun e=>e.nd.id).map fun i=>(flat t).countP fun x=>x.2.2==i).sum≤u.length*65535:=by
   intro u
   induction u with
   | nil=>intro _;simp
   | cons e u ih =>
     intro hu
     have h3:=ih fun m hm=>hu m (.tail _ hm)
     have he:=hu e (.head _)
     have h4:=h.linked e he
     have h5:=(h.each e he).nd.2.2.2.1
     unfold count at h4
     have h6:(flat t).countP (fun x=>x.2.2==e.nd.id)≤65535:=by
      split at h4 <;> omega
     simp only [List.map_cons,List.sum_cons,List.length_cons] at h3 ⊢
     omega
  exact key t fun e he=>he
 have:=h.few
 omega
theorem names_le_flat {e:En} (he:e ∈ t):e.names.length≤(flat t).length:=by
 obtain ⟨A,B,rfl⟩:=List.append_of_mem he
 simp only [flat,List.flatMap_append,List.flatMap_cons,List.length_append,List.length_map]
 omega
theorem Good.names_le (h:Good t) {e:En} (he:e ∈ t):e.names.length≤4194240:=Nat.le_trans (names_le_flat he) h.flat_le
/-! Looking. -/
theorem lookF_cons (i:Int) (x:Bs) (p:List Bs):lookF t i (x :: p)=if kindOf t i≠2 then (0,23) else match get (kids t i) x with|none=>(0,20)|some k=>lookF t k p:=rfl
theorem lookF_is {i:Int} (hi:(find t i).isSome=true) (h:Good t):∀ {p:List Bs},(lookF t i p).2=0→(find t (lookF t i p).1).isSome=true
 | [],_=>hi
 | x :: p,h1=>by
   rw [lookF_cons] at h1 ⊢
   split at h1
   ·simp at h1
   ·rename_i hk
    rw [if_neg hk]
    cases hg:get (kids t i) x with
    | none=>rw [hg] at h1;simp at h1
    | some k =>
      rw [hg] at h1
      exact lookF_is (h.leads_to (get_mem hg)).2 h h1
theorem Good.look_is (h:Good t) {p:List Bs} (h1:(lookF t 0 p).2=0):(find t (lookF t 0 p).1).isSome=true:=by
 obtain ⟨r,h2,_⟩:=h.zero
 exact lookF_is (by rw [h2];rfl) h h1
theorem lookF_app (i:Int) (p q:List Bs):lookF t i (p++q)=if (lookF t i p).2≠0 then lookF t i p else lookF t (lookF t i p).1 q:=by
 induction p generalizing i with
 | nil=>simp [lookF]
 | cons x p ih =>
   rw [List.cons_append,lookF_cons,lookF_cons]
   split
   ·simp
   ·cases get (kids t i) x with
    | none=>simp
    | some k=>exact ih k
theorem place_is (h:Good t) {p:List Bs} (h1:(place t p).2.2=0):∃ q x e,p=q++[x]∧lookF t 0 q=((place t p).1,0)∧(place t p).2.1=x∧find t (place t p).1=some e∧e.nd.kind=2∧place t p=(e.nd.id,x,0):=by
 unfold place at h1 ⊢
 split at h1
 ·simp at h1
 ·rename_i hp
  split at h1
  ·rename_i h2
   exact absurd h1 h2
  ·rename_i h2
   split at h1
   ·simp at h1
   ·rename_i h3
    rw [if_neg hp,if_neg h2,if_neg h3]
    have h4:kindOf t (lookF t 0 p.dropLast).1=2:=Decidable.byContradiction h3
    obtain ⟨e,he⟩:=h.has h4
    have h5:(lookF t 0 p.dropLast).2=0:=Decidable.byContradiction h2
    refine ⟨p.dropLast,p.getLast hp,e,(List.dropLast_concat_getLast hp).symm,Prod.ext rfl h5,?_,he,?_,?_⟩
    ·rw [List.getLastD_eq_getLast?,List.getLast?_eq_some_getLast hp];rfl
    ·rw [← kindOf_of he];exact h4
    ·rw [(find_some he).2,List.getLastD_eq_getLast?,List.getLast?_eq_some_getLast hp];rfl
theorem upd_ris (h:Ris t) {i:Int} {f:En→En} (hf:∀ e,(f e).nd.id=e.nd.id):Ris (upd t i f):=by
 unfold upd Ris
 rw [List.pairwise_map]
 refine List.Pairwise.imp ?_ h
 intro a b hab
 have e:∀ x:En,(if x.nd.id==i then f x else x).nd.id=x.nd.id:=fun x=>by split <;> simp [hf]
 rw [e,e];exact hab
theorem map_ris (h:Ris t) {f:En→En} (hf:∀ e,(f e).nd.id=e.nd.id):Ris (t.map f):=by
 unfold Ris
 rw [List.pairwise_map]
 refine List.Pairwise.imp ?_ h
 intro a b hab
 rw [hf,hf];exact hab
theorem remove_ris (h:Ris t) (i:Int):Ris (remove t i):=h.filter _
theorem find_upd_same {i:Int} {e:En} {f:En→En} (hf:∀ e,(f e).nd.id=e.nd.id) (h:find t i=some e):find (upd t i f) i=some (f e):=by
 rw [find_upd hf,h];simp
theorem find_map {f:En→En} (hf:∀ e,(f e).nd.id=e.nd.id) (i:Int):find (t.map f) i=(find t i).map f:=by
 induction t with
 | nil=>rfl
 | cons e t ih =>
   rw [List.map_cons,find_cons,find_cons,hf,ih]
   split <;> rfl
theorem file_cases (t:T) (i:Int):(file t i=20∧find t i=none)∨(file t i=22∧∃ e,find t i=some e∧e.nd.kind=2)∨(file t i=0∧∃ e,find t i=some e∧e.nd.kind≠2):=by
 unfold file
 cases hf:find t i with
 | none=>exact .inl ⟨rfl,rfl⟩
 | some e =>
   rw [kindOf_of hf]
   by_cases h:e.nd.kind=2
   ·exact .inr (.inl ⟨by simp [h],e,rfl,h⟩)
   ·exact .inr (.inr ⟨by simp [h],e,rfl,h⟩)
def openN (t:T) (i:Int):Nat:=if file t i≠0 then file t i else if (ndOf t i).shut=true then 27 else 0
end Tr
end Go.Proofs.YtbnpgakmhhfjkaaGreatDoor
namespace Go.Proofs.YtbnpgakmhhfjkaaGreatDoor
open Go.RowKit
namespace Tr
variable {t:T}
def Deep (dep:Int→Nat) (t:T):Prop:=dep 0=0∧∀ e ∈ t,∀ n ∈ e.names,dep e.nd.id+1≤8∧(kindOf t n.2=2→dep n.2=dep e.nd.id+1)
structure Pre (i:Int) (t:T):Prop where
 root:∃ r rest,t=r :: rest∧r.nd.id=0∧r.nd.kind=2
 rise:Ris t
 few:t.length≤64
 each:∀ e ∈ t,EnOk e
 leads:∀ e ∈ t,∀ n ∈ e.names,n.2≠0∧(find t n.2).isSome=true
 linked:∀ e ∈ t,e.nd.id≠i→(count t e.nd.id:Int)+(if e.nd.id=0 then 1 else 0)=e.nd.links
 dirs:∀ e ∈ t,e.nd.id≠i→e.nd.kind=2→e.nd.links=1
 shut:∀ e ∈ t,e.nd.id≠i→e.nd.shut=true→e.nd.links≠0
theorem Good.pre (h:Good t) (i:Int):Pre i t:=⟨h.root,h.rise,h.few,h.each,h.leads,fun e he _=>h.linked e he,fun e he _=>h.dirs e he,fun e he _=>h.shut e he⟩
theorem Pre.good {i:Int} (h:Pre i t) {dep:Int→Nat} (hd:Deep dep t) (hi:∀ e ∈ t,e.nd.id=i→(count t e.nd.id:Int)+(if e.nd.id=0 then 1 else 0)=e.nd.links∧(e.nd.kind=2→e.nd.links=1)∧(e.nd.shut=true→e.nd.links≠0)):Good t:=by
 refine ⟨h.root,h.rise,h.few,h.each,h.leads,fun e he=>?_,fun e he=>?_,fun e he=>?_,dep,hd⟩
 ·by_cases hx:e.nd.id=i
  ·exact (hi e he hx).1
  ·exact h.linked e he hx
 ·by_cases hx:e.nd.id=i
  ·exact (hi e he hx).2.1
  ·exact h.dirs e he hx
 ·by_cases hx:e.nd.id=i
  ·exact (hi e he hx).2.2
  ·exact h.shut e he hx
/-! One node is turned. -/
theorem upd_mem {i:Int} {f:En→En} {e:En} (h:e ∈ upd t i f):∃ e0 ∈ t,e=if e0.nd.id=i then f e0 else e0:=by
 obtain ⟨e0,h0,rfl⟩:=List.mem_map.1 h
 refine ⟨e0,h0,?_⟩
 by_cases hx:e0.nd.id=i <;> simp [hx]
theorem upd_root {i:Int} {f:En→En} (hf:∀ e,(f e).nd.id=e.nd.id) (hk:∀ e,(f e).nd.kind=e.nd.kind) (h:∃ r rest,t=r :: rest∧r.nd.id=0∧r.nd.kind=2):∃ r rest,upd t i f=r :: rest∧r.nd.id=0∧r.nd.kind=2:=by
 obtain ⟨r,rest,rfl,h1,h2⟩:=h
 refine ⟨_,_,rfl,?_,?_⟩
 ·show (if r.nd.id==i then f r else r).nd.id=0
  split <;> simp [hf,h1]
 ·show (if r.nd.id==i then f r else r).nd.kind=2
  split <;> simp [hk,h2]
theorem kindOf_upd {i:Int} {f:En→En} (hf:∀ e,(f e).nd.id=e.nd.id) (hk:∀ e,(f e).nd.kind=e.nd.kind) (j:Int):kindOf (upd t i f) j=kindOf t j:=by
 unfold kindOf ndOf
 rw [find_upd hf]
 cases find t j with
 | none=>rfl
 | some e =>
   simp only [Option.map_some,Option.getD_some]
   split <;> simp [hk]
theorem some_upd {i:Int} {f:En→En} (hf:∀ e,(f e).nd.id=e.nd.id) (j:Int):(find (upd t i f) j).isSome=(find t j).isSome:=by
 rw [find_upd hf];cases find t j <;> rfl
theorem flat_upd {i:Int} {f:En→En} (hf:∀ e,(f e).nd.id=e.nd.id) (hn:∀ e,(f e).names=e.names):flat (upd t i f)=flat t:=by
 unfold flat upd
 rw [List.flatMap_map]
 congr 1
 funext e
 split <;> simp [hf,hn]
theorem Good.turn (h:Good t) {i:Int} {f:En→En} (hf:∀ e,(f e).nd.id=e.nd.id) (hk:∀ e,(f e).nd.kind=e.nd.kind) (hn:∀ e,(f e).names=e.names) (hl:∀ e,(f e).nd.links=e.nd.links)
    (hok:∀ e,find t i=some e→EnOk (f e)∧((f e).nd.shut=true→e.nd.links≠0)):Good (upd t i f):=by
 have hfind:∀ e ∈ t,e.nd.id=i→find t i=some e:=fun e he hi=>hi ▸ h.ris.find he
 obtain ⟨dep,hd0,hd⟩:=h.deep
 refine ⟨upd_root hf hk h.root,upd_ris h.ris hf,by rw [upd_length];exact h.few,fun e he=>?_,fun e he n hm=>?_,fun e he=>?_,fun e he=>?_,fun e he=>?_,dep,hd0,fun e he n hm=>?_⟩
 all_goals
  obtain ⟨e0,h0,rfl⟩:=upd_mem he
 ·split
  ·rename_i hi;exact (hok e0 (hfind e0 h0 hi)).1
  ·exact h.each e0 h0
 ·have hm0:n ∈ e0.names:=by split at hm <;> simpa [hn] using hm
  rw [some_upd hf]
  exact h.leads e0 h0 n hm0
 ·have h1:=h.linked e0 h0
  unfold count at h1 ⊢
  rw [flat_upd hf hn]
  split <;> (try simp only [hf,hl]) <;> exact h1
 ·have h1:=h.dirs e0 h0
  split <;> (try simp only [hk,hl]) <;> exact h1
 ·split
  ·rename_i hi
   rw [hl];exact (hok e0 (hfind e0 h0 hi)).2
  ·exact h.shut e0 h0
 ·have hm0:n ∈ e0.names:=by split at hm <;> simpa [hn] using hm
  have h1:=hd e0 h0 n hm0
  rw [kindOf_upd hf hk]
  split <;> (try simp only [hf]) <;> exact h1
/-! Names. -/
theorem flat_split {A B:T} {e:En}:flat (A++e :: B)=flat A++(e.names.map (fun n=>(e.nd.id,n))++flat B):=by
 unfold flat
 rw [List.flatMap_append,List.flatMap_cons]
theorem flat_put (hr:Ris t) {d:Int} {en:En} (hf:find t d=some en) (x:Bs) (k:Int):(flat (put t d x k)).Perm ((d,(x,k)) :: flat t):=by
 obtain ⟨A,B,rfl,he,hA,hB⟩:=hr.split hf
 unfold put
 rw [upd_split he hA hB,flat_split,flat_split]
 have h1:((ins en.names x k).map fun n=>(en.nd.id,n)).Perm ((d,(x,k)) :: en.names.map fun n=>(en.nd.id,n)):=by
  have:=(ins_perm en.names x k).map (fun n=>(en.nd.id,n))
  rw [List.map_cons,he] at this
  rw [he];exact this
 refine (List.Perm.append_left _ (h1.append_right _)).trans ?_
 exact List.perm_middle
theorem flat_cut (hr:Ris t) {d:Int} {en:En} (hf:find t d=some en) (hrn:Rise en.names) {x:Bs} {k:Int} (hg:get en.names x=some k):(flat t).Perm ((d,(x,k)) :: flat (cut t d x)):=by
 obtain ⟨A,B,rfl,he,hA,hB⟩:=hr.split hf
 unfold cut
 rw [upd_split he hA hB,flat_split,flat_split]
 have h1:(en.names.map fun n=>(en.nd.id,n)).Perm ((d,(x,k)) :: (del en.names x).map fun n=>(en.nd.id,n)):=by
  have:=(del_perm hrn hg).map (fun n=>(en.nd.id,n))
  rw [List.map_cons,he] at this
  rw [he];exact this
 refine (List.Perm.append_left _ (h1.append_right _)).trans ?_
 exact List.perm_middle
theorem count_put (hr:Ris t) {d:Int} {en:En} (hf:find t d=some en) (x:Bs) (k j:Int):count (put t d x k) j=count t j+if k=j then 1 else 0:=by
 unfold count
 rw [(flat_put hr hf x k).countP_eq,List.countP_cons]
 by_cases h:k=j <;> simp [h]
theorem count_cut (hr:Ris t) {d:Int} {en:En} (hf:find t d=some en) (hrn:Rise en.names) {x:Bs} {k:Int} (hg:get en.names x=some k) (j:Int):count t j=count (cut t d x) j+if k=j then 1 else 0:=by
 unfold count
 rw [(flat_cut hr hf hrn hg).countP_eq,List.countP_cons]
 by_cases h:k=j <;> simp [h]
theorem put_id (x:Bs) (k:Int):∀ e:En,({ e with names:=ins e.names x k }:En).nd.id=e.nd.id:=fun _=>rfl
theorem cut_id (x:Bs):∀ e:En,({ e with names:=del e.names x }:En).nd.id=e.nd.id:=fun _=>rfl
theorem Pre.put {k:Int} (h:Pre k t) {d:Int} {en:En} (hf:find t d=some en) (hkd:en.nd.kind=2) {x:Bs} (hx:Pa.good x=true) (hg:get en.names x=none) (hk0:k≠0) (hks:(find t k).isSome=true):Pre k (put t d x k):=by
 have hfind:∀ e ∈ t,e.nd.id=d→e=en:=fun e he hi=>by
  have:=h.rise.find he
  rw [hi,hf] at this
  injection this with this
  exact this.symm
 refine ⟨upd_root (put_id x k) (fun _=>rfl) h.root,upd_ris h.rise (put_id x k),by unfold Tr.put;rw [upd_length];exact h.few,fun e he=>?_,fun e he n hm=>?_,fun e he hne=>?_,fun e he hne=>?_,fun e he hne=>?_⟩
 all_goals
  obtain ⟨e0,h0,rfl⟩:=upd_mem he
 ·split
  ·rename_i hi
   obtain rfl:=hfind e0 h0 hi
   have h1:=h.each e0 h0
   exact ⟨h1.nd,h1.size,ins_rise h1.rise k hg,fun n hn=>by rcases ins_mem.1 hn with rfl|hn;exact hx;exact h1.good n hn,fun hk=>by
    have hk':e0.nd.kind=1:=hk
    omega⟩
  ·exact h.each e0 h0
 ·unfold Tr.put
  rw [some_upd (put_id x k)]
  split at hm
  ·rename_i hi
   rcases ins_mem.1 hm with rfl|hm
   ·exact ⟨hk0,hks⟩
   ·exact h.leads e0 h0 n hm
  ·exact h.leads e0 h0 n hm
 ·have hid:(if e0.nd.id=d then ({ e0 with names:=ins e0.names x k }:En) else e0).nd=e0.nd:=by split <;> rfl
  rw [hid] at hne ⊢
  rw [count_put h.rise hf,if_neg (fun e=>hne e.symm)]
  exact h.linked e0 h0 hne
 ·have hid:(if e0.nd.id=d then ({ e0 with names:=ins e0.names x k }:En) else e0).nd=e0.nd:=by split <;> rfl
  rw [hid] at hne ⊢
  exact h.dirs e0 h0 hne
 ·have hid:(if e0.nd.id=d then ({ e0 with names:=ins e0.names x k }:En) else e0).nd=e0.nd:=by split <;> rfl
  rw [hid] at hne ⊢
  exact h.shut e0 h0 hne
theorem Deep.put {dep:Int→Nat} (h:Deep dep t) {d:Int} {x:Bs} {k:Int} (h8:dep d+1≤8) (hk:kindOf t k=2→dep k=dep d+1):Deep dep (put t d x k):=by
 refine ⟨h.1,fun e he n hm=>?_⟩
 obtain ⟨e0,h0,rfl⟩:=upd_mem he
 unfold Tr.put
 rw [kindOf_upd (put_id x k) (fun _=>rfl)]
 split at hm
 ·rename_i hi
  rcases ins_mem.1 hm with rfl|hm
  ·rw [if_pos hi]
   show dep e0.nd.id+1≤8∧_
   rw [hi];exact ⟨h8,hk⟩
  ·rw [if_pos hi];exact h.2 e0 h0 n hm
 ·rename_i hi
  rw [if_neg hi];exact h.2 e0 h0 n hm
theorem Good.cut (h:Good t) {d:Int} {en:En} (hf:find t d=some en) {x:Bs} {k:Int} (hg:get en.names x=some k):Pre k (cut t d x):=by
 have hrn:=(h.each en (find_some hf).1).rise
 refine ⟨upd_root (cut_id x) (fun _=>rfl) h.root,upd_ris h.rise (cut_id x),by unfold Tr.cut;rw [upd_length];exact h.few,fun e he=>?_,fun e he n hm=>?_,fun e he hne=>?_,fun e he hne=>?_,fun e he hne=>?_⟩
 all_goals
  obtain ⟨e0,h0,rfl⟩:=upd_mem he
  have hid:(if e0.nd.id=d then ({ e0 with names:=del e0.names x }:En) else e0).nd=e0.nd:=by split <;> rfl
 ·split
  ·have h1:=h.each e0 h0
   exact ⟨h1.nd,h1.size,del_rise h1.rise x,fun n hn=>h1.good n ((List.mem_filter.1 hn).1),fun hk=>by
    have:=h1.file hk
    show del e0.names x=[]
    rw [this];rfl⟩
  ·exact h.each e0 h0
 ·unfold Tr.cut
  rw [some_upd (cut_id x)]
  split at hm
  ·exact h.leads e0 h0 n ((List.mem_filter.1 hm).1)
  ·exact h.leads e0 h0 n hm
 ·rw [hid] at hne ⊢
  have h1:=h.linked e0 h0
  rw [count_cut h.rise hf hrn hg,if_neg (fun e=>hne e.symm)] at h1
  exact h1
 ·rw [hid] at hne ⊢
  exact h.dirs e0 h0
 ·rw [hid] at hne ⊢
  exact h.shut e0 h0
theorem Deep.cut {dep:Int→Nat} (h:Deep dep t) (d:Int) (x:Bs):Deep dep (cut t d x):=by
 refine ⟨h.1,fun e he n hm=>?_⟩
 obtain ⟨e0,h0,rfl⟩:=upd_mem he
 unfold Tr.cut
 rw [kindOf_upd (cut_id x) (fun _=>rfl)]
 split at hm
 ·rename_i hi
  rw [if_pos hi];exact h.2 e0 h0 n ((List.mem_filter.1 hm).1)
 ·rename_i hi
  rw [if_neg hi];exact h.2 e0 h0 n hm
theorem Pre.more {k:Int} (h:Pre k t) {dep:Int→Nat} (hd:Deep dep t) {ek:En} (hf:find t k=some ek) (hk:ek.nd.kind=1) {c:Int} (hc:(count t k:Int)=ek.nd.links+c) (hk0:k≠0) (h64:ek.nd.links+c≤65535) (hsh:ek.nd.shut=true→ek.nd.links+c≠0):Good (more t k c):=by
 have hid:∀ e:En,({ e with nd:={ e.nd with links:=e.nd.links+c } }:En).nd.id=e.nd.id:=fun _=>rfl
 have hfind:∀ e ∈ t,e.nd.id=k→e=ek:=fun e he hi=>by
  have:=h.rise.find he
  rw [hi,hf] at this
  injection this with this
  exact this.symm
 have hflat:flat (Tr.more t k c)=flat t:=flat_upd hid fun _=>rfl
 have hp:Pre k (Tr.more t k c):=by
  refine ⟨upd_root hid (fun _=>rfl) h.root,upd_ris h.rise hid,by unfold Tr.more;rw [upd_length];exact h.few,fun e he=>?_,fun e he n hm=>?_,fun e he hne=>?_,fun e he hne=>?_,fun e he hne=>?_⟩
  all_goals
   obtain ⟨e0,h0,rfl⟩:=upd_mem he
  ·split
   ·rename_i hi
    obtain rfl:=hfind e0 h0 hi
    have h1:=h.each e0 h0
    obtain ⟨n1,n2,n3,n4,n5,n6,n7,n8⟩:=h1.nd
    exact ⟨⟨n1,n2,by show 0≤e0.nd.links+c;omega,h64,n5,n6,n7,.inl hk⟩,h1.size,h1.rise,h1.good,h1.file⟩
   ·exact h.each e0 h0
  ·unfold Tr.more
   rw [some_upd hid]
   have hm0:n ∈ e0.names:=by split at hm <;> exact hm
   exact h.leads e0 h0 n hm0
  ·by_cases hi:e0.nd.id=k
   ·rw [if_pos hi] at hne;exact absurd hi hne
   ·rw [if_neg hi] at hne ⊢
    unfold count
    rw [hflat]
    exact h.linked e0 h0 hne
  ·by_cases hi:e0.nd.id=k
   ·rw [if_pos hi] at hne;exact absurd hi hne
   ·rw [if_neg hi] at hne ⊢
    exact h.dirs e0 h0 hne
  ·by_cases hi:e0.nd.id=k
   ·rw [if_pos hi] at hne;exact absurd hi hne
   ·rw [if_neg hi] at hne ⊢
    exact h.shut e0 h0 hne
 refine hp.good (dep:=dep) ⟨hd.1,fun e he n hm=>?_⟩ fun e he hi=>?_
 ·obtain ⟨e0,h0,rfl⟩:=upd_mem he
  unfold Tr.more
  rw [kindOf_upd hid (fun _=>rfl)]
  have hm0:n ∈ e0.names:=by split at hm <;> exact hm
  have:=hd.2 e0 h0 n hm0
  split <;> exact this
 ·obtain ⟨e0,h0,rfl⟩:=upd_mem he
  have hi0:e0.nd.id=k:=by split at hi <;> exact hi
  obtain rfl:=hfind e0 h0 hi0
  rw [if_pos hi0]
  refine ⟨?_,fun h2=>?_,hsh⟩
  ·show (count (Tr.more t k c) e0.nd.id:Int)+(if e0.nd.id=0 then 1 else 0)=e0.nd.links+c
   unfold count
   rw [hflat,hi0,if_neg hk0]
   unfold count at hc
   omega
  ·have h2':e0.nd.kind=2:=h2
   omega
theorem Pre.remove {i:Int} (h:Pre i t) {dep:Int→Nat} (hd:Deep dep t) (hi0:i≠0) (hk:kids t i=[]) (hn:∀ e ∈ t,∀ n ∈ e.names,n.2≠i):Good (remove t i):=by
 have hmem:∀ e,e ∈ Tr.remove t i↔e ∈ t∧e.nd.id≠i:=fun e=>by
  unfold Tr.remove
  rw [List.mem_filter]
  simp
 have hflat:flat (Tr.remove t i)=flat t:=by
  cases hf:find t i with
  | none =>
    have:Tr.remove t i=t:=by
     unfold Tr.remove
     rw [List.filter_eq_self]
     intro e he
     have:=find_none.1 hf e he
     simpa using this
    rw [this]
  | some e =>
    rw [kids_of hf] at hk
    obtain ⟨A,B,rfl,he,hA,hB⟩:=h.rise.split hf
    rw [remove_split he hA hB,flat_split,hk]
    simp [flat,List.flatMap_append]
 have hsome:∀ j,j≠i→find (Tr.remove t i) j=find t j:=fun j hj=>by rw [find_remove,if_neg hj]
 refine ⟨?_,remove_ris h.rise i,Nat.le_trans (List.length_filter_le _ _) h.few,fun e he=>h.each e ((hmem e).1 he).1,fun e he n hm=>?_,fun e he=>?_,fun e he=>?_,fun e he=>?_,dep,hd.1,fun e he n hm=>?_⟩
 ·obtain ⟨r,rest,rfl,h1,h2⟩:=h.root
  refine ⟨r,Tr.remove rest i,?_,h1,h2⟩
  unfold Tr.remove
  rw [List.filter_cons,if_pos (by rw [h1];simpa using fun e:(0:Int)=i=>hi0 e.symm)]
 ·obtain ⟨h1,_⟩:=(hmem e).1 he
  rw [hsome n.2 (hn e h1 n hm)]
  exact h.leads e h1 n hm
 ·obtain ⟨h1,h2⟩:=(hmem e).1 he
  unfold count
  rw [hflat]
  exact h.linked e h1 h2
 ·obtain ⟨h1,h2⟩:=(hmem e).1 he
  exact h.dirs e h1 h2
 ·obtain ⟨h1,h2⟩:=(hmem e).1 he
  exact h.shut e h1 h2
 ·obtain ⟨h1,_⟩:=(hmem e).1 he
  have h3:=hd.2 e h1 n hm
  have e1:kindOf (Tr.remove t i) n.2=kindOf t n.2:=by
   unfold kindOf ndOf
   rw [hsome n.2 (hn e h1 n hm)]
  rw [e1];exact h3
theorem count_zero {i:Int} (h:count t i=0):∀ e ∈ t,∀ n ∈ e.names,n.2≠i:=fun e he n hn e2=>by
 unfold count at h
 rw [List.countP_eq_zero] at h
 have:=h (e.nd.id,n) (flat_mem.2 ⟨e,he,rfl,hn⟩)
 simp [e2] at this
theorem Good.insE (h:Good t) {k kind:Int} (hk:kind=1∨kind=2) (hnew:∀ e ∈ t,e.nd.id≠k) (hk0:0≤k) (hk9:k≤65535) (hlt:t.length<64):Pre k (insE t (fresh k kind)):=by
 have hr:=insE_ris h.ris (n:=fresh k kind) hnew
 have hflat:(flat (Tr.insE t (fresh k kind))).Perm (flat t):=by
  unfold flat
  exact ((insE_perm t (fresh k kind)).flatMap_right _).trans (by rw [List.flatMap_cons];exact .refl _)
 have hsome:∀ j,(find t j).isSome=true→(find (Tr.insE t (fresh k kind)) j).isSome=true:=fun j hj=>by
  rw [find_insE h.ris hnew]
  split
  ·rfl
  ·exact hj
 refine ⟨?_,hr,by rw [insE_length];omega,fun e he=>?_,fun e he n hm=>?_,fun e he hne=>?_,fun e he hne=>?_,fun e he hne=>?_⟩
 ·obtain ⟨r,rest,rfl,h1,h2⟩:=h.root
  have h3:=hnew r (.head _)
  refine ⟨r,Tr.insE rest (fresh k kind),?_,h1,h2⟩
  show (if r.nd.id<k then r :: Tr.insE rest (fresh k kind) else _)=_
  rw [if_pos (by omega)]
 ·rcases insE_mem.1 he with rfl|he
  ·refine ⟨⟨hk0,hk9,by show (0:Int)≤1;omega,by show (1:Int)≤65535;omega,by show (0:Int)≤0;omega,by show (0:Int)≤4096;omega,by show (0:Nat)≤1099511627776;omega,?_⟩,rfl,List.Pairwise.nil,(fun n hn=>by cases hn),fun _=>rfl⟩
   rcases hk with rfl|rfl
   ·exact .inl rfl
   ·exact .inr ⟨rfl,rfl,rfl,rfl⟩
  ·exact h.each e he
 ·rcases insE_mem.1 he with rfl|he
  ·cases hm
  ·obtain ⟨h1,h2⟩:=h.leads e he n hm
   exact ⟨h1,hsome _ h2⟩
 ·rcases insE_mem.1 he with rfl|he
  ·exact absurd rfl hne
  ·unfold count
   rw [hflat.countP_eq]
   exact h.linked e he
 ·rcases insE_mem.1 he with rfl|he
  ·exact absurd rfl hne
  ·exact h.dirs e he
 ·rcases insE_mem.1 he with rfl|he
  ·exact absurd rfl hne
  ·exact h.shut e he
end Tr
end Go.Proofs.YtbnpgakmhhfjkaaGreatDoor
namespace Go.Proofs.YtbnpgakmhhfjkaaGreatDoor
open Go.RowKit
namespace Tr
variable {t:T}
theorem new_good:Good new:=by
 have hf:flat new=[]:=rfl
 refine ⟨⟨_,_,rfl,rfl,rfl⟩,List.pairwise_singleton _ _,by show 1≤64;omega,fun e he=>?_,fun e he n hm=>?_,fun e he=>?_,fun e he=>?_,fun e he=>?_,fun _=>0,rfl,fun e he n hm=>?_⟩
 all_goals
  obtain rfl:e=fresh 0 2:=by simpa [new] using he
 ·exact ⟨⟨by decide,by decide,by decide,by decide,by decide,by decide,by decide,.inr ⟨rfl,rfl,rfl,rfl⟩⟩,rfl,List.Pairwise.nil,(fun n hn=>by cases hn),fun _=>rfl⟩
 ·cases hm
 ·unfold count;rw [hf];rfl
 ·exact fun _=>rfl
 ·intro _;show (1:Int)≠0;omega
 ·cases hm
theorem formed_ok {q:List Bs} (h:formed q=0):q.length≤8∧∀ s ∈ q,Pa.good s=true:=by
 unfold formed at h
 split at h
 ·rename_i h1
  split at h
  ·cases h
  ·exact ⟨by omega,fun s hs=>List.all_eq_true.1 h1 s hs⟩
 ·cases h
theorem Good.look_dep (h:Good t) {dep:Int→Nat} (hd:Deep dep t):∀ (q:List Bs) (i:Int),kindOf t i=2→(lookF t i q).2=0→kindOf t (lookF t i q).1=2→dep (lookF t i q).1=dep i+q.length
 | [],_,_,_,_=>rfl
 | x :: q,i,hi,h0,hk=>by
   rw [lookF_cons,if_neg (by rw [hi];simp)] at h0 hk ⊢
   cases hg:get (kids t i) x with
   | none=>rw [hg] at h0;cases h0
   | some j =>
     rw [hg] at h0 hk
     simp only at h0 hk ⊢
     obtain ⟨e,he,hm⟩:=kids_mem (get_mem hg)
     have h1:=hd.2 e (find_some he).1 _ hm
     rw [(find_some he).2] at h1
     have hj:kindOf t j=2:=by
      cases q with
      | nil=>exact hk
      | cons y q =>
        rw [lookF_cons] at h0
        split at h0
        ·cases h0
        ·rename_i h2;exact Decidable.byContradiction h2
     have ih:=Good.look_dep h hd q j hj h0 hk
     have h2:=h1.2 hj
     simp only at h2
     rw [List.length_cons]
     omega
theorem Good.place_dep (h:Good t) {dep:Int→Nat} (hd:Deep dep t) {q r:List Bs} {x:Bs} {d:Int} (hq:q=r++[x]) (hlk:lookF t 0 r=(d,0)) (hk:kindOf t d=2) (h8:q.length≤8):dep d+1≤8∧dep d=r.length:=by
 obtain ⟨e0,he0,h0,_⟩:=h.zero
 have h1:=h.look_dep hd r 0 (by rw [kindOf_of he0];exact h0) (by rw [hlk]) (by rw [hlk];exact hk)
 rw [hlk,hd.1,Nat.zero_add] at h1
 simp only at h1
 rw [hq,List.length_append] at h8
 simp only [List.length_cons,List.length_nil] at h8
 exact ⟨by omega,h1⟩
theorem Good.free_ok (h:Good t):∃ k:Nat,free t=(k:Int)∧k≤t.length∧(∀ e ∈ t,e.nd.id≠free t)∧free t≠0:=by
 obtain ⟨k,h1,h2,h3,h4,h5⟩:=freeFrom_spec t h.ris 0 fun e he=>(h.each e he).nd.1
 rw [Int.zero_add] at h1
 have h6:free t=(k:Int):=h1
 refine ⟨k,h6,h2,fun e he=>by rw [h6];have:=h3 e he;omega,fun h0=>?_⟩
 obtain ⟨r,hr,_,hr0⟩:=h.zero
 have:=h3 r (find_some hr).1
 omega
theorem Good.placed (h:Good t) {q:List Bs} (h0:(place t q).2.2=0):∃ r x en d,q=r++[x]∧lookF t 0 r=(d,0)∧place t q=(d,x,0)∧find t d=some en∧en.nd.kind=2∧en.nd.id=d:=by
 obtain ⟨r,x,en,hq,hlk,hx,hfd,hkd,hpl⟩:=place_is h h0
 rw [hpl] at hlk hfd
 exact ⟨r,x,en,en.nd.id,hq,hlk,hpl,hfd,hkd,rfl⟩
theorem make_good (h:Good t) (q:List Bs) (kind:Int):Good (make t q kind).2:=by
 unfold make
 split
 ·exact h
 rename_i hf
 split
 ·exact h
 rename_i hkd
 split
 ·exact h
 rename_i hp
 split
 ·exact h
 rename_i hg
 split
 ·exact h
 rename_i hm
 have hf0:formed q=0:=Decidable.byContradiction hf
 obtain ⟨r,x,en,d,hq,hlk,hpl,hfd,hen,hid⟩:=h.placed (Decidable.byContradiction hp)
 rw [hpl] at hg ⊢
 rw [kids_of hfd] at hg
 obtain ⟨k,hk,hkl,hnew,hk0⟩:=h.free_ok
 obtain ⟨h8,hgood⟩:=formed_ok hf0
 have hgx:Pa.good x=true:=hgood x (by rw [hq];simp)
 obtain ⟨dep,hd0,hd⟩:=h.deep
 have hD:Deep dep t:=⟨hd0,hd⟩
 obtain ⟨hp8,_⟩:=h.place_dep hD hq hlk (by rw [kindOf_of hfd];exact hen) h8
 have hkind:kind=1∨kind=2:=by omega
 have hlt:t.length<64:=by omega
 have hpre:=h.insE (k:=free t) (kind:=kind) hkind hnew (by omega) (by omega) hlt
 have hdk:d≠free t:=fun e=>hnew en (find_some hfd).1 (by rw [(find_some hfd).2,e])
 have hfi:=find_insE h.ris (n:=fresh (free t) kind) hnew
 have hfd2:find (insE t (fresh (free t) kind)) d=some en:=by rw [hfi];exact (if_neg hdk).trans hfd
 have hfk2:find (insE t (fresh (free t) kind)) (free t)=some (fresh (free t) kind):=by rw [hfi];exact if_pos rfl
 have hgn:get en.names x=none:=by
  cases hh:get en.names x with
  | none=>rfl
  | some j=>rw [hh] at hg;exact absurd rfl hg
 have hdep2:Deep (fun j=>if j=free t then dep d+1 else dep j) (insE t (fresh (free t) kind)):=by
  refine ⟨by show (if (0:Int)=free t then dep d+1 else dep 0)=0;rw [if_neg (fun e=>hk0 e.symm)];exact hd0,fun e he n hn=>?_⟩
  rcases insE_mem.1 he with rfl|he
  ·cases hn
  ·have h1:=hd e he n hn
   have h2:n.2≠free t:=fun e2=>by
    obtain ⟨_,h3⟩:=h.leads e he n hn
    obtain ⟨e',h4,h5⟩:=find_isSome.1 h3
    exact hnew e' h4 (by rw [h5,e2])
   have h3:kindOf (insE t (fresh (free t) kind)) n.2=kindOf t n.2:=by
    unfold kindOf ndOf
    rw [hfi,if_neg (show n.2≠(fresh (free t) kind).nd.id from h2)]
   simp only [if_neg h2,if_neg (hnew e he),h3]
   exact h1
 refine (hpre.put hfd2 hen hgx hgn hk0 (by rw [hfk2];rfl)).good (dep:=fun j=>if j=free t then dep d+1 else dep j) (hdep2.put (by show (if d=free t then dep d+1 else dep d)+1≤8;rw [if_neg hdk];exact hp8) (by intro _;show (if free t=free t then dep d+1 else dep (free t))=(if d=free t then dep d+1 else dep d)+1;rw [if_pos rfl,if_neg hdk])) fun e he hi=>?_
 have hcz:count (insE t (fresh (free t) kind)) (free t)=0:=by
  unfold count
  rw [List.countP_eq_zero]
  intro y hy
  obtain ⟨e',he',_,hm'⟩:=flat_mem.1 hy
  rcases insE_mem.1 he' with rfl|he'
  ·cases hm'
  ·obtain ⟨_,h3⟩:=h.leads e' he' _ hm'
   obtain ⟨e2,h4,h5⟩:=find_isSome.1 h3
   have:=hnew e2 h4
   simp only [beq_iff_eq]
   omega
 have hee:e.nd=(fresh (free t) kind).nd:=by
  obtain ⟨e0,h0,rfl⟩:=upd_mem he
  have hi0:e0.nd.id=free t:=by split at hi <;> exact hi
  have he0:e0=fresh (free t) kind:=by
   rcases insE_mem.1 h0 with h1|h1
   ·exact h1
   ·exact absurd hi0 (hnew e0 h1)
  subst he0
  split <;> rfl
 rw [hee]
 refine ⟨?_,fun _=>rfl,fun _=>by show (1:Int)≠0;omega⟩
 show (count _ (free t):Int)+(if free t=0 then 1 else 0)=1
 rw [count_put hpre.rise hfd2,hcz,if_pos rfl,if_neg hk0]
 rfl
theorem append_good (h:Good t) (i:Int) (b:Bs):Good (append t i b).2:=by
 unfold append
 split
 ·exact h
 rename_i hf
 split
 ·exact h
 split
 ·exact h
 rename_i hs
 refine h.turn (fun _=>rfl) (fun _=>rfl) (fun _=>rfl) (fun _=>rfl) fun e he=>?_
 have h1:=h.each e (find_some he).1
 have hk:e.nd.kind=1:=by
  rcases h.kind (find_some he).1 with h2|h2
  ·exact h2
  ·rcases file_cases t i with ⟨h3,_⟩|⟨h3,_⟩|⟨_,e2,h4,h5⟩
   ·exact absurd (by rw [h3];simp) hf
   ·exact absurd (by rw [h3];simp) hf
   ·rw [he] at h4;injection h4 with h4;rw [← h4] at h5;exact absurd h2 h5
 rw [ndOf_of he] at hs
 have hsz:=h1.size
 refine ⟨⟨⟨h1.nd.1,h1.nd.2.1,h1.nd.2.2.1,h1.nd.2.2.2.1,?_,?_,h1.nd.2.2.2.2.2.2.1,.inl hk⟩,rfl,h1.rise,h1.good,h1.file⟩,h.shut e (find_some he).1⟩
 ·show (0:Int)≤((e.data++b).length:Nat);omega
 ·show (((e.data++b).length:Nat):Int)≤4096
  rw [List.length_append];omega
theorem file_kind (h:Good t) {i:Int} (hf:¬ file t i≠0) {e:En} (he:find t i=some e):e.nd.kind=1:=by
 rcases h.kind (find_some he).1 with h2|h2
 ·exact h2
 ·rcases file_cases t i with ⟨h3,_⟩|⟨h3,_⟩|⟨_,e2,h4,h5⟩
  ·exact absurd (by rw [h3];simp) hf
  ·exact absurd (by rw [h3];simp) hf
  ·rw [he] at h4;injection h4 with h4;rw [← h4] at h5;exact absurd h2 h5
theorem file_has {i:Int} (hf:¬ file t i≠0):∃ e,find t i=some e:=by
 rcases file_cases t i with ⟨h3,_⟩|⟨h3,_⟩|⟨_,e2,h4,_⟩
 ·exact absurd (by rw [h3];simp) hf
 ·exact absurd (by rw [h3];simp) hf
 ·exact ⟨e2,h4⟩
theorem keep_good (h:Good t) (i:Int) (u:Nat):Good (keep t i u).2:=by
 unfold keep
 split
 ·exact h
 rename_i hf
 split
 ·exact h
 split
 ·exact h
 split
 ·exact h
 rename_i hu
 refine h.turn (fun _=>rfl) (fun _=>rfl) (fun _=>rfl) (fun _=>rfl) fun e he=>?_
 have h1:=h.each e (find_some he).1
 exact ⟨⟨⟨h1.nd.1,h1.nd.2.1,h1.nd.2.2.1,h1.nd.2.2.2.1,h1.nd.2.2.2.2.1,h1.nd.2.2.2.2.2.1,by show u≤1099511627776;omega,.inl (show e.nd.kind=1 from file_kind h hf he)⟩,h1.size,h1.rise,h1.good,h1.file⟩,h.shut e (find_some he).1⟩
theorem remove_upd (i:Int) (f:En→En) (hf:∀ e,(f e).nd.id=e.nd.id):remove (upd t i f) i=remove t i:=by
 unfold remove upd
 rw [List.filter_map]
 have h1:((fun e:En=>!(e.nd.id==i)) ∘ fun e=>if (e.nd.id==i)=true then f e else e)=fun e=>!(e.nd.id==i):=by
  funext e
  simp only [Function.comp]
  split <;> simp_all
 rw [h1]
 conv=>rhs;rw [← List.map_id (List.filter (fun e=>!(e.nd.id==i)) t)]
 apply List.map_congr_left
 intro e he
 have:=(List.mem_filter.1 he).2
 rw [if_neg (by simpa using this)];rfl
theorem Good.gone (h:Good t) {i:Int} {e:En} (he:find t i=some e) (hk:e.nd.kind=1) (hl:e.nd.links=0):Good (remove t i):=by
 obtain ⟨dep,hd⟩:=h.deep
 obtain ⟨hm,hid⟩:=find_some he
 have h1:=h.linked e hm
 have hi0:i≠0:=fun e0=>by
  rw [hl,hid,if_pos e0] at h1;omega
 refine (h.pre i).remove hd hi0 (h.file_kids (by rw [kindOf_of he,hk];omega)) (count_zero ?_)
 rw [hl,hid,if_neg hi0] at h1
 omega
theorem seal_good (h:Good t) (i:Int) (u:Nat):Good (seal_ t i u).2:=by
 unfold seal_
 split
 ·exact h
 rename_i hf
 split
 ·exact h
 split
 ·exact h
 rename_i hu
 obtain ⟨e,he⟩:=file_has hf
 rw [ndOf_of he]
 split
 ·rename_i hl
  show Good (remove (upd t i (shutE u)) i)
  rw [remove_upd i (shutE u) fun _=>rfl]
  exact h.gone he (file_kind h hf he) hl
 ·rename_i hl
  refine h.turn (f:=shutE u) (fun _=>rfl) (fun _=>rfl) (fun _=>rfl) (fun _=>rfl) fun e2 he2=>?_
  have h1:=h.each e2 (find_some he2).1
  rw [he] at he2
  injection he2 with he2
  subst he2
  exact ⟨⟨⟨h1.nd.1,h1.nd.2.1,h1.nd.2.2.1,h1.nd.2.2.2.1,h1.nd.2.2.2.2.1,h1.nd.2.2.2.2.2.1,by show u≤1099511627776;omega,.inl (show e.nd.kind=1 from file_kind h hf he)⟩,h1.size,h1.rise,h1.good,h1.file⟩,fun _=>hl⟩
end Tr
end Go.Proofs.YtbnpgakmhhfjkaaGreatDoor
namespace Go.Proofs.YtbnpgakmhhfjkaaGreatDoor
open Go.RowKit
namespace Tr
variable {t:T}
theorem get_no {l:List Nm} {x:Bs} (h:¬ (get l x).isSome=true):get l x=none:=by
 cases hh:get l x with
 | none=>rfl
 | some j=>rw [hh] at h;exact absurd rfl h
theorem Good.looked (h:Good t) {q:List Bs} {i:Int} (h0:lookF t 0 q=(i,0)) (hq:q≠[]):∃ r x d en,q=r++[x]∧lookF t 0 r=(d,0)∧find t d=some en∧en.nd.kind=2∧get en.names x=some i∧place t q=(d,x,0):=by
 have hqe:=(List.dropLast_concat_getLast hq).symm
 obtain ⟨r,hr⟩:∃ r,r=q.dropLast:=⟨_,rfl⟩
 obtain ⟨x,hx⟩:∃ x,x=q.getLast hq:=⟨_,rfl⟩
 rw [← hr,← hx] at hqe
 have h1:=h0
 rw [hqe,lookF_app] at h1
 split at h1
 ·rename_i h2
  rw [h1] at h2
  exact absurd rfl h2
 ·rename_i h2
  have h3:(lookF t 0 r).2=0:=Decidable.byContradiction h2
  obtain ⟨d,hd⟩:∃ d,d=(lookF t 0 r).1:=⟨_,rfl⟩
  rw [← hd,lookF_cons] at h1
  split at h1
  ·simp at h1
  ·rename_i h4
   have hk:kindOf t d=2:=Decidable.byContradiction h4
   obtain ⟨en,hen⟩:=h.has hk
   rw [kids_of hen] at h1
   cases hg:get en.names x with
   | none=>rw [hg] at h1;simp at h1
   | some j =>
     rw [hg] at h1
     have hj:j=i:=by
      have h5:(j,0)=(i,0):=h1
      exact congrArg Prod.fst h5
     have hlr:lookF t 0 r=(d,0):=Prod.ext hd.symm h3
     refine ⟨r,x,d,en,hqe,hlr,hen,by rw [← kindOf_of hen];exact hk,by rw [hj] at hg;exact hg,?_⟩
     unfold place
     rw [if_neg hq,← hr,hlr,if_neg (by simp),if_neg (by simpa using hk),List.getLastD_eq_getLast?,List.getLast?_eq_some_getLast hq,← hx]
     rfl
theorem link_good (h:Good t) (q r:List Bs):Good (link t q r).2:=by
 unfold link
 split
 ·exact h
 split
 ·exact h
 rename_i hfr
 split
 ·exact h
 rename_i hl0
 split
 ·exact h
 rename_i hk
 split
 ·exact h
 rename_i hp
 split
 ·exact h
 rename_i hg
 split
 ·exact h
 rename_i h64
 have hfr0:formed r=0:=Decidable.byContradiction hfr
 obtain ⟨r1,x,en,d,hq,hlk,hpl,hfd,hen,hid⟩:=h.placed (Decidable.byContradiction hp)
 obtain ⟨i,hi⟩:∃ i,i=(lookF t 0 q).1:=⟨_,rfl⟩
 obtain ⟨ef,hef⟩:=Option.isSome_iff_exists.1 (h.look_is (Decidable.byContradiction hl0))
 rw [hpl] at hg ⊢
 rw [← hi] at hk h64 hef ⊢
 rw [kids_of hfd] at hg
 rw [kindOf_of hef] at hk
 rw [ndOf_of hef] at h64
 obtain ⟨hfm,hfid⟩:=find_some hef
 have hk1:ef.nd.kind=1:=(h.kind hfm).elim id fun k=>absurd k hk
 obtain ⟨h8,hgood⟩:=formed_ok hfr0
 have hgx:Pa.good x=true:=hgood x (by rw [hq];simp)
 obtain ⟨dep,hD⟩:∃ dep,Deep dep t:=h.deep
 obtain ⟨hp8,_⟩:=h.place_dep hD hq hlk (by rw [kindOf_of hfd];exact hen) h8
 have hi0:i≠0:=fun e=>by
  obtain ⟨r0,h1,h2,_⟩:=h.zero
  rw [e,h1] at hef
  injection hef with hef
  rw [← hef] at hk;exact hk h2
 have hdi:i≠d:=fun e=>by
  rw [e,hfd] at hef
  injection hef with hef
  rw [← hef] at hk;exact hk hen
 have hpre:=(h.pre i).put hfd hen hgx (get_no hg) hi0 (by rw [hef];rfl)
 have hdp:=hD.put (t:=t) (x:=x) (k:=i) hp8 (fun h2=>absurd (by rw [kindOf_of hef] at h2;exact h2) hk)
 have hlinked:=h.linked ef hfm
 rw [hfid,if_neg hi0] at hlinked
 have hsh:=h.shut ef hfm
 have h0l:=(h.each ef hfm).nd.2.2.1
 refine hpre.more hdp (ek:=ef) ?_ hk1 ?_ hi0 (by omega) (fun hs=>by have:=hsh hs;omega)
 ·unfold Tr.put
  rw [find_upd (put_id x i),hef]
  simp only [Option.map_some,if_neg hdi]
 ·rw [count_put h.ris hfd,if_pos rfl]
  omega
theorem Good.cut_facts (h:Good t) {d i:Int} {en:En} {x:Bs} (hfd:find t d=some en) (hg:get en.names x=some i):i≠0∧∃ ei,find t i=some ei∧(count (Tr.cut t d x) i:Int)=ei.nd.links-1:=by
 obtain ⟨hdm,hdid⟩:=find_some hfd
 obtain ⟨h1,h2⟩:=h.leads en hdm _ (get_mem hg)
 obtain ⟨ei,hei⟩:=Option.isSome_iff_exists.1 h2
 refine ⟨h1,ei,hei,?_⟩
 obtain ⟨hm,hid⟩:=find_some hei
 have h3:=h.linked ei hm
 have h4:=count_cut h.ris hfd (h.each en hdm).rise hg i
 simp only at hid h1
 rw [hid,if_neg h1] at h3
 rw [if_pos rfl] at h4
 omega
theorem unlink_good (h:Good t) (q:List Bs):Good (unlink t q).2:=by
 unfold unlink
 split
 ·exact h
 split
 ·exact h
 rename_i hl0
 split
 ·exact h
 rename_i hk
 have hl:(lookF t 0 q).2=0:=Decidable.byContradiction hl0
 obtain ⟨i,hi⟩:∃ i,i=(lookF t 0 q).1:=⟨_,rfl⟩
 obtain ⟨ef,hef⟩:=Option.isSome_iff_exists.1 (h.look_is hl)
 have hlk:lookF t 0 q=(i,0):=Prod.ext hi.symm hl
 rw [← hi] at hk hef ⊢
 rw [kindOf_of hef] at hk
 rw [ndOf_of hef]
 have hq:q≠[]:=fun e=>by
  rw [e] at hlk
  obtain ⟨r0,h1,h2,_⟩:=h.zero
  have e0:(0:Int)=i:=congrArg Prod.fst (show ((0:Int),0)=(i,0) from hlk)
  rw [← e0,h1] at hef
  injection hef with hef
  rw [← hef] at hk;exact hk h2
 obtain ⟨r,x,d,en,hqe,hlr,hfd,hen,hg,hpl⟩:=h.looked hlk hq
 obtain ⟨hi0,ei,hei,hcount⟩:=h.cut_facts hfd hg
 obtain rfl:ei=ef:=by rw [hef] at hei;injection hei with hei;exact hei.symm
 obtain ⟨hfm,hfid⟩:=find_some hef
 have hk1:ei.nd.kind=1:=(h.kind hfm).elim id fun k=>absurd k hk
 obtain ⟨dep,hD⟩:∃ dep,Deep dep t:=h.deep
 have hdi:i≠d:=fun e=>by
  rw [e,hfd] at hef
  injection hef with hef
  rw [← hef] at hk;exact hk hen
 have hfi:find (cut t d x) i=some ei:=by
  unfold Tr.cut
  rw [find_upd (cut_id x),hef]
  simp only [Option.map_some,if_neg hdi]
 have hpre:=h.cut hfd hg
 have hu:unlinked t q=more (cut t d x) i (-1):=by
  unfold unlinked
  rw [hpl,← hi]
 have h0:=(h.each ei hfm).nd
 split
 ·rename_i hl1
  show Good (remove (unlinked t q) i)
  rw [hu]
  have hru:remove (more (cut t d x) i (-1)) i=remove (cut t d x) i:=remove_upd i (fun e=>{ e with nd:={ e.nd with links:=e.nd.links+(-1) } }) fun _=>rfl
  rw [hru]
  refine hpre.remove (hD.cut d x) hi0 (by rw [kids_of hfi];exact (h.each ei hfm).file hk1) (count_zero (by omega))
 ·rename_i hl1
  show Good (unlinked t q)
  rw [hu]
  refine hpre.more (hD.cut d x) hfi hk1 (by omega) hi0 (by have:=h0.2.2.2.1;omega) (fun hs hz=>hl1 ⟨by omega,hs⟩)
theorem rmdir_good (h:Good t) (q:List Bs):Good (rmdir t q).2:=by
 unfold rmdir
 split
 ·exact h
 split
 ·exact h
 rename_i hl0
 split
 ·exact h
 rename_i hk
 split
 ·exact h
 rename_i hq
 split
 ·exact h
 rename_i hkids
 have hl:(lookF t 0 q).2=0:=Decidable.byContradiction hl0
 obtain ⟨i,hi⟩:∃ i,i=(lookF t 0 q).1:=⟨_,rfl⟩
 have hlk:lookF t 0 q=(i,0):=Prod.ext hi.symm hl
 obtain ⟨r,x,d,en,hqe,hlr,hfd,hen,hg,hpl⟩:=h.looked hlk hq
 obtain ⟨hi0,ei,hei,hcount⟩:=h.cut_facts hfd hg
 rw [← hi] at hk hkids ⊢
 rw [hpl]
 have hki:kindOf t i=2:=Decidable.byContradiction hk
 have hkid:kids t i=[]:=Decidable.byContradiction hkids
 rw [kindOf_of hei] at hki
 rw [kids_of hei] at hkid
 obtain ⟨hfm,hfid⟩:=find_some hei
 have hl1:=h.dirs ei hfm hki
 obtain ⟨dep,hD⟩:∃ dep,Deep dep t:=h.deep
 have hdi:i≠d:=fun e=>by
  rw [e,hfd] at hei
  injection hei with hei
  rw [← hei] at hkid
  rw [hkid] at hg;cases hg
 have hfi:find (cut t d x) i=some ei:=by
  unfold Tr.cut
  rw [find_upd (cut_id x),hei]
  simp only [Option.map_some,if_neg hdi]
 exact (h.cut hfd hg).remove (hD.cut d x) hi0 (by rw [kids_of hfi];exact hkid) (count_zero (by omega))
theorem flat_strike (i:Int):flat (t.map fun e=>{ e with names:=strike e.names i })=(flat t).filter fun x=>!(x.2.2==i):=by
 unfold flat
 rw [List.flatMap_map,List.filter_flatMap]
 congr 1
 funext e
 show (strike e.names i).map _=_
 unfold strike
 rw [List.filter_map]
 rfl
theorem drop_good (h:Good t) (i:Int):Good (drop t i).2:=by
 unfold drop
 split
 ·exact h
 rename_i hf
 split
 ·exact h
 obtain ⟨e0,he0⟩:=file_has hf
 have hk1:=file_kind h hf he0
 have hid:∀ e:En,({ e with names:=strike e.names i }:En).nd.id=e.nd.id:=fun _=>rfl
 obtain ⟨hm0,hid0⟩:=find_some he0
 have hi0:i≠0:=fun e=>by
  obtain ⟨r0,h1,h2,_⟩:=h.zero
  rw [e,h1] at he0
  injection he0 with he0
  rw [← he0] at hk1;omega
 obtain ⟨dep,hd0,hd⟩:=h.deep
 have hmem:∀ e ∈ (t.map fun e=>({ e with names:=strike e.names i }:En)),∃ e1 ∈ t,e={ e1 with names:=strike e1.names i }:=fun e he=>by
  obtain ⟨e1,h1,rfl⟩:=List.mem_map.1 he
  exact ⟨e1,h1,rfl⟩
 have hpre:Pre i (t.map fun e=>({ e with names:=strike e.names i }:En)):=by
  refine ⟨?_,map_ris h.ris hid,by rw [List.length_map];exact h.few,fun e he=>?_,fun e he n hn=>?_,fun e he hne=>?_,fun e he hne=>?_,fun e he hne=>?_⟩
  ·obtain ⟨r,rest,rfl,h1,h2⟩:=h.root
   exact ⟨_,_,rfl,h1,h2⟩
  all_goals
   obtain ⟨e1,h1,rfl⟩:=hmem e he
  ·have h2:=h.each e1 h1
   exact ⟨h2.nd,h2.size,strike_rise h2.rise i,fun n hn=>h2.good n (List.mem_filter.1 hn).1,fun hk=>by
    show strike e1.names i=[]
    rw [h2.file hk];rfl⟩
  ·rw [find_map hid]
   obtain ⟨h2,h3⟩:=h.leads e1 h1 n (List.mem_filter.1 hn).1
   refine ⟨h2,?_⟩
   cases hh:find t n.2 with
   | none=>rw [hh] at h3;cases h3
   | some _=>rfl
  ·unfold count
   rw [flat_strike,List.countP_filter]
   have e1':((flat t).countP fun a=>decide (a.2.2==e1.nd.id)&&!(a.2.2==i))=(flat t).countP fun a=>a.2.2==e1.nd.id:=by
    apply List.countP_congr
    intro a _
    have hne':e1.nd.id≠i:=hne
    by_cases hx:a.2.2=e1.nd.id
    ·simp [hx,hne']
    ·simp [hx]
   have h2:=h.linked e1 h1
   unfold count at h2
   show ((List.countP _ (flat t):Nat):Int)+_=_
   simp only [decide_eq_true_eq,Bool.decide_eq_true] at e1' ⊢
   rw [e1']
   exact h2
  ·exact h.dirs e1 h1
  ·exact h.shut e1 h1
 have hD:Deep dep (t.map fun e=>({ e with names:=strike e.names i }:En)):=by
  refine ⟨hd0,fun e he n hn=>?_⟩
  obtain ⟨e1,h1,rfl⟩:=hmem e he
  have h2:=hd e1 h1 n (List.mem_filter.1 hn).1
  have h3:kindOf (t.map fun e=>({ e with names:=strike e.names i }:En)) n.2=kindOf t n.2:=by
   unfold kindOf ndOf
   rw [find_map hid]
   cases find t n.2 <;> rfl
  rw [h3];exact h2
 refine hpre.remove hD hi0 ?_ fun e he n hn=>?_
 ·unfold kids
  rw [find_map hid,he0]
  show strike e0.names i=[]
  rw [(h.each e0 hm0).file hk1];rfl
 ·obtain ⟨e1,h1,rfl⟩:=hmem e he
  have:=(List.mem_filter.1 hn).2
  simpa using this
end Tr
end Go.Proofs.YtbnpgakmhhfjkaaGreatDoor
