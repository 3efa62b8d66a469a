/-
  OWN WORK. BaMem, BaRow, BaFrame, RgB, BaRg, BaStr, BaRgStr
-/
import Derived.Test.YtbnpgakmhhfjkaaGreatDoorChecked
import Derived.WalkKit
import Derived.Outline
import Derived.WalkLawsBesides
import Derived.Below
import Derived.Laws.OwnMore
import Derived.Deep.Draws
import Derived.Laws.Rows
import Derived.Deep.AppendLies
import Derived.Laws.CopyOwn
import Derived.Laws.BitsAllLaws
import Derived.Lib.UnsafeStr
import Derived.OwnWalk
import Derived.Laws.AppendOwn
import Derived.RegionTactic
import Derived.BigRegion
import Derived.Deep.QuietTactic
import Derived.BigQuiet
import Derived.Lib.Hide
import Derived.Deep.Cut
import Derived.Deep.WholeRow
import Derived.Laws.AppendOwnNone
import Derived.StillTailTactics
import Derived.Maps.AppendAt
import Derived.Deep.RegionHeld3
import Derived.Deep.DeepCutAuto
import Derived.Maps.RangeWalk
import Derived.Lib.SlBytesConst
import Derived.Laws.BytesArg
import Derived.IntWalk
import Derived.Test.YtbnpgakmhhfjkaaGreatDoorRows
import Derived.ChangeSame
import Derived.ChangeVars
import Derived.JoinedOf
import Derived.RowKit
import Derived.RowKitTokens
import Derived.LaidLaws
import Derived.Deep.Slices
import Derived.ProofKit
import Derived.Carry
import Derived.OpenShut
import Derived.OrdersHeld
namespace Go.Proofs.YtbnpgakmhhfjkaaGreatDoor
open Go.RowKit
def Blk (w:World) (g:Nat) (t:TypeId) (cs:List Value):Prop:=w.heap[g]?=some (.cells cs.toArray t (0,0))
section
variable {w w':World} {g:Nat} {t:TypeId} {cs:List Value}
theorem Blk.lt (h:Blk w g t cs):g<w.heap.size:=by
 rcases Nat.lt_or_ge g w.heap.size with hlt|hge
 ·exact hlt
 ·unfold Blk at h;rw [Array.getElem?_eq_none hge] at h;cases h
theorem Blk.cell (h:Blk w g t cs) (i:Nat):w.cell? ⟨g,i,none⟩=cs[i]?:=by
 rw [cell_of_row w g i cs.toArray t (0,0) h];simp
theorem Blk.frozen (h:Blk w g t cs) (i:Nat):w.frozen? ⟨g,i,none⟩=false:=by
 unfold Blk at h
 simp [World.frozen?,h]
theorem Blk.new (w:World) (t:TypeId) (cs:List Value):Blk (w.alloc (.cells cs.toArray t)) w.heap.size t cs:=heap_alloc_new w _
theorem Blk.drew (h:Blk w g t cs):Blk w.drew g t cs:=h
theorem Blk.alloc (h:Blk w g t cs) (o:Obj):Blk (w.alloc o) g t cs:=(Below.heap_alloc w o g h.lt).trans h
theorem Blk.set_ (h:Blk w g t cs) (i:Nat) (u:Value):Blk (w.setCell ⟨g,i,none⟩ u) g t (cs.set i u):=by
 unfold Blk at h ⊢
 simp [World.setCell,Array.getElem?_modify,h]
theorem Blk.far (h:Blk w g t cs) {p:Addr} (hp:g≠p.block) (u:Value):Blk (w.setCell p u) g t cs:=(Below.heap_setCell w p u g hp).trans h
theorem Blk.row (h:Blk w g t cs) (cs':List Value):Blk (w.setRow g cs'.toArray) g t cs':=setRow_heap w g _ _ t _ h
theorem Blk.rowFar (h:Blk w g t cs) {k:Nat} (hk:g≠k) (c:Array Value):Blk (w.setRow k c) g t cs:=(setRow_other w k g c hk).trans h
theorem Blk.below {B:Nat} (h:Blk w g t cs) (hb:Below B w w') (hg:g<B):Blk w' g t cs:=(hb.block g hg).trans h
theorem Blk.grown {row:Option Nat} (h:Blk w g t cs) (hb:w.grownBy w' row) (hg:some g≠row):Blk w' g t cs:=(hb.block g h.lt hg).trans h
theorem Blk.ne_ {g':Nat} {t':TypeId} {cs':List Value} (h:Blk w g t cs) (h':Blk w g' t' cs') (hne:t≠t'):g≠g':=by
 rintro rfl
 unfold Blk at h h'
 rw [h] at h'
 injection h' with h'
 injection h' with _ ht
 exact hne ht
end
theorem bcell {W w1:World} (hb:Below W.heap.size W w1):(∀ b o,b<W.heap.size→w1.cell? ⟨b,o,none⟩=W.cell? ⟨b,o,none⟩)∧(∀ b o,b<W.heap.size→w1.frozen? ⟨b,o,none⟩=W.frozen? ⟨b,o,none⟩) :=
 ⟨fun b o h=>hb.cell (p:=⟨b,o,none⟩) h,fun b o h=>hb.frozen (p:=⟨b,o,none⟩) h⟩
theorem undrew {b:Nat} {w w':World} (h:Below b w.drew w'):Below b w w':=⟨h.os,h.tape,h.output,h.size,h.block⟩
theorem block_of_add (a:Addr) (n:Nat):(a.add n).block=a.block:=by unfold Addr.add;split <;> rfl
def Keeps (w w':World) (g:Nat):Prop:=w.grownBy w' (some g)
theorem Keeps.refl (w:World) (g:Nat):Keeps w w g:=⟨rfl,rfl,rfl,Nat.le_refl _,fun _ _ _=>rfl⟩
theorem Keeps.trans {a b c:World} {g:Nat} (h:Keeps a b g) (k:Keeps b c g):Keeps a c g :=
 ⟨k.os.trans h.os,k.tape.trans h.tape,k.output.trans h.output,Nat.le_trans h.size k.size,fun i hi hn=>(k.block i (Nat.lt_of_lt_of_le hi h.size) hn).trans (h.block i hi hn)⟩
theorem Keeps.of_below {a b:World} {g:Nat} (h:Below a.heap.size a b):Keeps a b g:=⟨h.os,h.tape,h.output,h.size,fun i hi _=>h.block i hi⟩
theorem Keeps.below {B:Nat} {a b c:World} {g:Nat} (h:Below B a b) (k:Keeps b c g) (hg:B≤g) (hB:B≤b.heap.size):Below B a c :=
 h.grown k hB (fun i hi=>by cases hi;exact hg)
theorem Keeps.setCell {a b:World} {g:Nat} (h:Keeps a b g) (i:Nat) (u:Value):Keeps a (b.setCell ⟨g,i,none⟩ u) g :=
 h.trans ⟨rfl,rfl,rfl,by simp [World.setCell],fun k _ hn=>Below.heap_setCell _ _ _ _ (fun e=>hn (by rw [e]))⟩
theorem Keeps.setRow {a b:World} {g:Nat} (h:Keeps a b g) (c:Array Value):Keeps a (b.setRow g c) g :=
 h.trans ⟨rfl,rfl,rfl,by simp [World.setRow],fun k _ hn=>setRow_other b g k c (fun e=>hn (by rw [e]))⟩
theorem Keeps.drew {a b:World} {g:Nat} (h:Keeps a b g):Keeps a b.drew g:=⟨h.os,h.tape,h.output,h.size,h.block⟩
theorem Keeps.drewN {a b:World} {g:Nat} (h:Keeps a b g) (n:Nat):Keeps a (b.drewN n) g:=⟨h.os,h.tape,h.output,h.size,h.block⟩
theorem Keeps.cell {a b:World} {g:Nat} (h:Keeps a b g) {p:Addr} (hp:p.block<a.heap.size) (hg:p.block≠g):b.cell? p=a.cell? p :=
 World.cell?_of_block (w:=a) (h.block p.block hp (fun e=>hg (by injection e)))
theorem wp_world {P:Program} {c:Code} {Q:Exit→Act→World→Prop} {a:Act} {w:World} (F:World→Prop) (h:F w) (k:∀ w',F w'→c.wp P Q a w'):c.wp P Q a w:=k w h
theorem add_plain (g off j:Nat):(⟨g,off,none⟩:Addr).add j=⟨g,off+j,none⟩:=by
 unfold Addr.add
 split <;> simp_all
theorem Blk.src {w:World} {g:Nat} {t:TypeId} {cs:List Value} (h:Blk w g t cs) (off:Nat) {j:Nat} {v:Value} (hv:cs[off+j]?=some v):w.cell? ((⟨g,off,none⟩:Addr).add j)=some v:=by
 rw [add_plain,h.cell];exact hv
theorem Blk.src0 {w:World} {g:Nat} {t:TypeId} {cs:List Value} (h:Blk w g t cs) {j:Nat} {v:Value} (hv:cs[j]?=some v):w.cell? ((⟨g,0,none⟩:Addr).add j)=some v :=
 h.src 0 (by rw [Nat.zero_add];exact hv)
theorem run_loadVar_part {P:Program} (w:World) (ad:Addr) (ty:TypeId) (cs:List Value) (d:TypeDesc) (hc:∀ j v,cs[j]?=some v→w.cell? (ad.add j)=some v)
    (hu:P.underlying ty=some d) (hd:(match d with|.struct _|.array _ _=>true|_=>false)=true) (hi:(P.info? ty).map (·.size)=some cs.length) :
    (loadVar ty ad).run P w=.ok (.agg cs.toArray) w:=by
 have hl:(loadCells ad cs.length).run P w=.ok cs.toArray w:=run_loadCells_list (P:=P) w ad cs hc
 cases hq:P.info? ty with
 | none=>simp [hq] at hi
 | some i =>
   have hs:i.size=cs.length:=by simpa [hq] using hi
   have hagg:(isAgg ty).run P w=.ok true w:=by
    unfold isAgg
    rw [Sem.run_bind,run_underlying hu w]
    cases d <;> simp_all
   simp [loadVar,Sem.run_bind,hagg,sizeOf,typeInfo,hq,hs,hl]
theorem wpList_load_part {P:Program} {w:World} {ops:Array Oper} {rest:List Oper} {o:Oper} {a:Act} {Q:Exit→Act→World→Prop} (hgd:o.guard=none) (ty:TypeId) (x:Operand) (ho:o.op=.load ty x)
    (ad:Addr) (hx:a.eval x=.pointer (some ad)) (cs:List Value) (d:TypeDesc) (hc:∀ j v,cs[j]?=some v→w.cell? (ad.add j)=some v)
    (hu:P.underlying ty=some d) (hd:(match d with|.struct _|.array _ _=>true|_=>false)=true) (hi:(P.info? ty).map (·.size)=some cs.length)
    (h:wpList P ops Q rest (a.put o.dst (.agg cs.toArray)) w):wpList P ops Q (o :: rest) a w:=by
 refine wpList_plain hgd fun K hK=>?_
 unfold Oper.wp execOp
 simp only [ho,hx,Instr.loadAt,Instr.sureAddr,Sem.run_bind,Sem.run_pure,Result.andThen_ok,run_loadVar_part w ad ty cs d hc hu hd hi]
 exact hK _ _ h
theorem ret_num {k:IntKind} {a b:Int} (h:a=b):Ending.returned (.int k b)=Ending.returned (.int k a):=by rw [h]
end Go.Proofs.YtbnpgakmhhfjkaaGreatDoor
namespace Go.Proofs.YtbnpgakmhhfjkaaGreatDoor
open Go.RowKit
def Rd (w:World) (A:Option Addr) (l:List UInt8):Prop :=
 0<l.length→∃ b off,A=some ⟨b,off,none⟩∧b<w.heap.size∧∀ j x,l[j]?=some x→w.cell? ⟨b,off+j,none⟩=some (.int .u8 x.toNat)
theorem Rd.nil (w:World) (A:Option Addr):Rd w A []:=fun h=>absurd h (by simp)
theorem Rd.keep {w w':World} {A:Option Addr} {l:List UInt8} (h:Rd w A l) (hb:∀ p:Addr,p.block<w.heap.size→A.map (·.block)=some p.block→w'.cell? p=w.cell? p) (hs:w.heap.size≤w'.heap.size):Rd w' A l:=by
 intro hl
 obtain ⟨b,off,rfl,hlt,hc⟩:=h hl
 exact ⟨b,off,rfl,by omega,fun j x hx=>(hb ⟨b,off+j,none⟩ hlt rfl).trans (hc j x hx)⟩
theorem Rd.below {w w':World} {A:Option Addr} {l:List UInt8} (h:Rd w A l) (hb:Below w.heap.size w w'):Rd w' A l:=h.keep (fun _ hp _=>hb.cell hp) hb.size
theorem Rd.keeps {w w':World} {A:Option Addr} {l:List UInt8} {g:Nat} (h:Rd w A l) (hb:Keeps w w' g) (hg:0<l.length→A.map (·.block)≠some g):Rd w' A l:=fun hl =>
 h.keep (fun p hp e=>hb.cell hp (fun e2=>hg hl (by rw [e,e2]))) hb.size hl
theorem Rd.far {w:World} {A:Option Addr} {l:List UInt8} (h:Rd w A l) {B:Nat} (hB:w.heap.size≤B):0<l.length→A.map (·.block)≠some B:=by
 intro hl
 obtain ⟨b,off,rfl,hb,_⟩:=h hl
 simp only [Option.map_some,ne_eq,Option.some.injEq]
 omega
theorem Rd.cut {w:World} {A:Option Addr} {l:List UInt8} (h:Rd w A l) (k cap:Nat) (hc:l.length≤cap):Rd w (if cap=k then A else A.map (·.add k)) (l.drop k):=by
 intro hl
 rw [List.length_drop] at hl
 obtain ⟨b,off,rfl,hlt,hcell⟩:=h (by omega)
 rw [if_neg (by omega)]
 refine ⟨b,off+k,by simp [add_plain],hlt,fun j x hx=>?_⟩
 rw [List.getElem?_drop] at hx
 rw [Nat.add_assoc]
 exact hcell _ _ hx
theorem Rd.take {w:World} {A:Option Addr} {l:List UInt8} (h:Rd w A l) (k:Nat):Rd w A (l.take k):=by
 intro hl
 rw [List.length_take] at hl
 obtain ⟨b,off,rfl,hlt,hcell⟩:=h (by omega)
 refine ⟨b,off,rfl,hlt,fun j x hx=>hcell j x ?_⟩
 rw [List.getElem?_take] at hx
 split at hx
 ·exact hx
 ·cases hx
theorem Rd.at_ {w:World} {A:Option Addr} {l:List UInt8} (h:Rd w A l) (hl:0<l.length):∃ b off,A=some ⟨b,off,none⟩∧b<w.heap.size∧∀ j,j<l.length→w.cell? ⟨b,off+j,none⟩=some (.int .u8 (l.getD j 0).toNat):=by
 obtain ⟨b,off,hA,hlt,hc⟩:=h hl
 refine ⟨b,off,hA,hlt,fun j hj=>hc j _ ?_⟩
 simp [List.getElem?_eq_getElem hj]
theorem Tryz.infoU8:(Tryz.prog.info? 5).map (fun i=>(i.zero,i.size,i.bytes))=some (some (.int .u8 0),1,1):=by kernel_rfl
theorem _root_.Go.World.ownsRow.ownBlock_ge {w:World} {base:Nat} {e:TypeId} {size n:Nat} {v:Value} {xs:List Value} (h:w.ownsRow base e size v n xs) (g:Nat) (hg:v.ownBlock=some g):base≤g:=by
 rcases h.2 with ⟨rfl,_⟩|⟨g',cap,cur,rfl,hb,_⟩
 ·cases hg
 ·have:g'=g:=by simpa [Value.ownBlock] using hg
  omega
theorem own_mono {w:World} {base base':Nat} {e:TypeId} {size n:Nat} {v:Value} {xs:List Value} (h:w.ownsRow base e size v n xs) (hb:base'≤base):w.ownsRow base' e size v n xs:=by
 refine ⟨h.1,?_⟩
 rcases h.2 with h2|⟨g,cap,cur,h3,h4,h5⟩
 ·exact .inl h2
 ·exact .inr ⟨g,cap,cur,h3,by omega,h5⟩
theorem run_copy_keep {P:Program} (w:World) (dT sT ty elem:TypeId) (hu:P.underlying dT=some (.slice elem)) (hsz:(P.info? elem).map (·.size)=some 1)
    (dp sp:Option Addr) (dLen dCap sLen sCap:Nat) (g off:Nat) (cur:List Value) (t:TypeId) (hg:Blk w g t cur) (cs:List Value) (hn:cs.length=Nat.min sLen dLen)
    (hpos:0<cs.length→dp=some ⟨g,off,none⟩∧∃ ad,sp=some ad∧∀ j v,cs[j]?=some v→w.cell? (ad.add j)=some v)
    (hfit:off+cs.length≤cur.length) (h1:∀ v ∈ cs,v.oneCell'=true) :
    ∃ w',(Builtin.copy_ #[dT,sT] ty #[.slice dp dLen dCap,.slice sp sLen sCap]).run P w=.ok (goInt cs.length) w'∧Blk w' g t (splice cur off cs)∧Keeps w w' g:=by
 by_cases h0:cs.length=0
 ·obtain rfl:cs=[]:=List.eq_nil_of_length_eq_zero h0
  refine ⟨w,?_,?_,Keeps.refl w g⟩
  ·exact run_copy_none w dT sT ty elem dp sp dLen dCap sLen sCap hu hsz (by rw [← hn];rfl)
  ·have e:splice cur off []=cur:=by simp [splice]
   rw [e];exact hg
 ·obtain ⟨rfl,ad,rfl,hsrc⟩:=hpos (by omega)
  refine ⟨_,run_copy_row (P:=P) w dT sT ty elem g off dLen dCap ad sLen sCap cur.toArray t cs hu hsz hg hn hsrc (by simpa using hfit) h1,?_,(Keeps.refl w g).setRow _⟩
  have e:cur.toArray.toList.take off++cs++cur.toArray.toList.drop (off+cs.length)=splice cur off cs:=by simp [splice]
  rw [e]
  exact hg.row _
theorem step_copy_keep {P:Program} {ops:Array Oper} {o:Oper} {a:Act} {w:World} {K:Act→World→Prop} {Q:Exit→Act→World→Prop} {E:Prop} (hgd:o.guard=none) (d s:Operand) (dT sT:TypeId)
    (ho:o.op=.call { callee:=.builtin .copy,args:=#[d,s],argTypes:=#[dT,sT] }) (elem:TypeId) (hu:P.underlying dT=some (.slice elem)) (hsz:(P.info? elem).map (·.size)=some 1)
    (dp sp:Option Addr) (dLen dCap sLen sCap:Nat) (hd:a.eval d=.slice dp dLen dCap) (hs:a.eval s=.slice sp sLen sCap)
    (g off:Nat) (cur:List Value) (t:TypeId) (hg:Blk w g t cur) (cs:List Value) (hn:cs.length=Nat.min sLen dLen)
    (hpos:0<cs.length→dp=some ⟨g,off,none⟩∧∃ ad,sp=some ad∧∀ j v,cs[j]?=some v→w.cell? (ad.add j)=some v)
    (m:Nat) (hm:cs.length=m) (hfit:off+cs.length≤cur.length) (h1:∀ v ∈ cs,v.oneCell'=true)
    (h:∀ w',Hid (Blk w' g t (splice cur off cs))→Hid (Keeps w w' g)→K (a.put o.dst (goInt m)) w') :
    if Region.wanted o (yielded ops a.tmps)=true then Oper.wp P o a w K Q else E:=by
 rw [if_pos (show Region.wanted o (yielded ops a.tmps)=true by simp [Region.wanted,hgd])]
 obtain ⟨w',hrun,hb,hk⟩:=run_copy_keep w dT sT o.type elem hu hsz dp sp dLen dCap sLen sCap g off cur t hg cs hn hpos hfit h1
 rw [hm] at hrun
 unfold Oper.wp
 simp [execOp,ho,resolve,invoke,builtin,hd,hs,hrun,Result.andThen]
 exact h w' hb hk
theorem wpList_copy_keep {P:Program} {w:World} {ops:Array Oper} {rest:List Oper} {o:Oper} {a:Act} {Q:Exit→Act→World→Prop} (hgd:o.guard=none) (d s:Operand) (dT sT:TypeId)
    (ho:o.op=.call { callee:=.builtin .copy,args:=#[d,s],argTypes:=#[dT,sT] }) (elem:TypeId) (hu:P.underlying dT=some (.slice elem)) (hsz:(P.info? elem).map (·.size)=some 1)
    (dp sp:Option Addr) (dLen dCap sLen sCap:Nat) (hd:a.eval d=.slice dp dLen dCap) (hs:a.eval s=.slice sp sLen sCap)
    (g off:Nat) (cur:List Value) (t:TypeId) (hg:Blk w g t cur) (cs:List Value) (hn:cs.length=Nat.min sLen dLen)
    (hpos:0<cs.length→dp=some ⟨g,off,none⟩∧∃ ad,sp=some ad∧∀ j v,cs[j]?=some v→w.cell? (ad.add j)=some v)
    (m:Nat) (hm:cs.length=m) (hfit:off+cs.length≤cur.length) (h1:∀ v ∈ cs,v.oneCell'=true)
    (h:∀ w',Hid (Blk w' g t (splice cur off cs))→Hid (Keeps w w' g)→wpList P ops Q rest (a.put o.dst (goInt m)) w') :
    wpList P ops Q (o :: rest) a w:=by
 refine wpList_plain hgd fun K hK=>?_
 obtain ⟨w',hrun,hb,hk⟩:=run_copy_keep w dT sT o.type elem hu hsz dp sp dLen dCap sLen sCap g off cur t hg cs hn hpos hfit h1
 rw [hm] at hrun
 unfold Oper.wp
 simp [execOp,ho,resolve,invoke,builtin,hd,hs,hrun,Result.andThen]
 exact hK _ _ (h w' hb hk)
def cutA (A:Option Addr) (n cap:Nat):Option Addr:=if cap=n then A else A.map (·.add n)
theorem byte_size (w:World):(sizeOf (Tryz.prog.elem 23)).run Tryz.prog w=.ok 1 w:=by kernel_rfl
theorem byte_under:Tryz.prog.underlying 23=some (.slice (Tryz.prog.elem 23)):=by kernel_rfl
theorem sl_l (w:World) (A:Option Addr) (len cap n:Nat) (h:n≤len):(Instr.sliceAt 23 (.slice A len cap) (some (.int .i64 n)) none none).run Tryz.prog w=.ok (.slice (cutA A n cap) (len-n) (cap-n)) w:=by
 rw [run_sliceAt_slice w _ _ _ _ _ byte_under,run_slice_l w _ _ _ _ byte_under .i64 n (by omega) (by omega),byte_size]
 simp [Result.andThen,sliced,cutA]
theorem sl_h (w:World) (A:Option Addr) (len cap n:Nat) (h:n≤cap):(Instr.sliceAt 23 (.slice A len cap) none (some (.int .i64 n)) none).run Tryz.prog w=.ok (.slice A n cap) w:=by
 rw [run_sliceAt_slice w _ _ _ _ _ byte_under,run_slice_h w _ _ _ _ byte_under .i64 n (by omega) (by omega),byte_size]
 have e:∀ a:Addr,a.add 0=a:=fun a=>by unfold Addr.add;simp
 cases A <;> simp [Result.andThen,sliced,e]
theorem bytes_one (l:List UInt8):∀ v ∈ Lib.byteCells l,v.oneCell'=true:=by
 intro v hv
 simp only [Lib.byteCells,List.mem_map] at hv
 obtain ⟨x,_,rfl⟩:=hv
 rfl
theorem cutA_block (A:Option Addr) (q:List UInt8) (n cap B:Nat) (h:0<q.length→A.map (·.block)≠some B):0<(q.drop n).length→(cutA A n cap).map (·.block)≠some B:=by
 intro hl
 replace h:=h (by rw [List.length_drop] at hl;omega)
 unfold cutA
 split
 ·exact h
 ·cases A with
  | none=>simp
  | some a=>simpa [block_of_add] using h
theorem rd_one (w:World) (x:UInt8) (t:TypeId):Rd (w.alloc (.cells #[.int .u8 x.toNat] t)) (some ⟨w.heap.size,0,none⟩) [x]:=by
 intro _
 refine ⟨_,_,rfl,by rw [World.size_alloc];omega,fun j y hy=>?_⟩
 have hj:j=0:=by
  have:=(List.getElem?_eq_some_iff.1 hy).1
  simp at this
  exact this
 subst hj
 obtain rfl:x=y:=by simpa using hy
 rw [World.cell?_alloc_at _ _ _ _ rfl]
 rfl
theorem rd_own {w:World} {base:Nat} {v:Value} {n:Nat} {l:List UInt8} (h:w.ownsRow base 5 1 v n (Lib.byteCells l)) (hn:0<n):∃ g cap,v=.slice (some ⟨g,0,none⟩) n cap∧n≤cap∧base≤g∧g<w.heap.size∧l.length=n∧Rd w (some ⟨g,0,none⟩) l:=by
 have hln:l.length=n:=by have:=h.1;rw [Lib.byteCells_length] at this;omega
 rcases h.2 with ⟨_,h0⟩|⟨g,cap,cur,rfl,hb,hg,h1,h2,h3,h4⟩
 ·omega
 ·have hlt:g<w.heap.size:=by
   rcases Nat.lt_or_ge g w.heap.size with hlt|hge
   ·exact hlt
   ·rw [Array.getElem?_eq_none hge] at hg;cases hg
  refine ⟨g,cap,rfl,h1,hb,hlt,hln,fun _=>⟨g,0,rfl,hlt,fun j x hx=>?_⟩⟩
  rw [cell_of_row w g (0+j) cur _ _ hg,Nat.zero_add]
  have h10:(cur.toList.take (n*1))[j]?=some (.int .u8 x.toNat):=by
   rw [h4]
   simp [Lib.byteCells,hx]
  rw [List.getElem?_take] at h10
  split at h10
  ·simpa using h10
  ·cases h10
def Later (w w':World):Prop:=Below w.heap.size w w'
theorem Later.refl (w:World):Later w w:=Below.refl _ _
theorem Later.trans {a b c:World} (h:Later a b) (k:Later b c):Later a c:=Below.trans h (Below.mono k h.size)
theorem Later.rd {w w':World} (h:Later w w') {A:Option Addr} {l:List UInt8} (hr:Rd w A l):Rd w' A l:=hr.below h
theorem run_append_rd {P:Program} (w:World) (base:Nat) (t ty e:TypeId) (i:TypeInfo) (ht:P.underlying t=some (.slice e)) (hi:P.info? e=some i) (hz:i.zero=some (.int .u8 0)) (hsize:i.size=1) (hby:i.bytes=1)
    (v:Value) (n:Nat) (xs:List Value) (hown:w.ownsRow base e 1 v n xs) (A:Option Addr) (l:List UInt8) (c:Nat) (hr:Rd w A l) (hn:n+l.length≤1099511627776) (hbase:base≤w.heap.size) :
    ∃ v' w',(Builtin.append_ #[t,t] ty #[v,.slice A l.length c]).run P w=.ok v' w'∧w'.ownsRow base e 1 v' (n+l.length) (xs++Lib.byteCells l)∧w.grownBy w' v.ownBlock:=by
 cases A with
 | none =>
   have hl:l=[]:=by
    rcases Nat.eq_zero_or_pos l.length with h|h
    ·exact List.eq_nil_of_length_eq_zero h
    ·obtain ⟨b,off,h1,_⟩:=hr h
     cases h1
   subst hl
   refine ⟨v,w,?_,by simpa [Lib.byteCells] using hown,⟨rfl,rfl,rfl,Nat.le_refl _,fun _ _ _=>rfl⟩⟩
   show (Builtin.append_ #[t,t] ty #[v,.slice none 0 c]).run P w=.ok v w
   rcases hown.2 with ⟨rfl,rfl⟩|⟨g,cap,cur,rfl,_,_,hnc,_⟩
   ·simp [Builtin.append_,run_underlying ht,sizeOf,typeInfo,hi,Builtin.lenOf,Builtin.firstCells]
   ·simp [Builtin.append_,run_underlying ht,sizeOf,typeInfo,hi,Builtin.lenOf,Builtin.firstCells,hnc,storeCells]
 | some ad =>
   have hc:∀ j u,(Lib.byteCells l)[j]?=some u→w.cell? (ad.add j)=some u:=by
    intro j u hu
    simp only [Lib.byteCells,List.getElem?_map,Option.map_eq_some_iff] at hu
    obtain ⟨x,hx,rfl⟩:=hu
    obtain ⟨b,off,h1,_,h2⟩:=hr (by have:=(List.getElem?_eq_some_iff.1 hx).1;omega)
    obtain rfl:ad=⟨b,off,none⟩:=by injection h1
    rw [add_plain]
    exact h2 j x hx
   obtain ⟨v',w',h1,h2,h3,_⟩:=run_append_own (P:=P) (w:=w) base t ty e i (.int .u8 0) 1 1 ht hi hz hsize hby rfl (by decide) v n xs hown ad l.length c (Lib.byteCells l) (by simp [Lib.byteCells_length]) hc (bytes_one l) (by unfold maxLen;omega) (by omega) hbase
   exact ⟨v',w',h1,h2,h3⟩
theorem wp_append_at {P:Program} {o:Oper} {a:Act} {w:World} {K:Act→World→Prop} {Q:Exit→Act→World→Prop} (s x:Operand) (t:TypeId)
    (ho:o.op=.call { callee:=.builtin .append,args:=#[s,x],argTypes:=#[t,t] })
    (base:Nat) (e:TypeId) (i:TypeInfo) (ht:P.underlying t=some (.slice e)) (hi:P.info? e=some i) (hz:i.zero=some (.int .u8 0)) (hsize:i.size=1) (hby:i.bytes=1)
    (v:Value) (n:Nat) (xs:List Value) (hs:a.eval s=v) (hown:w.ownsRow base e 1 v n xs) (A:Option Addr) (l:List UInt8) (m c:Nat) (hm:l.length=m) (hx:a.eval x=.slice A m c) (hr:Rd w A l) (hn:n+l.length≤1099511627776) (hbase:base≤w.heap.size)
    (h:∀ v' w',Hid (w'.ownsRow base e 1 v' (n+l.length) (xs++Lib.byteCells l))→Hid (w.grownBy w' v.ownBlock)→Hid (v'.ownBlock=v.ownBlock∨v'.ownBlock=some w.heap.size)→K (a.put o.dst v') w'):o.wp P a w K Q:=by
 subst hm
 have hrun:∃ v' w',(Builtin.append_ #[t,t] o.type #[v,.slice A l.length c]).run P w=.ok v' w'∧w'.ownsRow base e 1 v' (n+l.length) (xs++Lib.byteCells l)∧w.grownBy w' v.ownBlock∧(v'.ownBlock=v.ownBlock∨v'.ownBlock=some w.heap.size):=by
  cases A with
  | none =>
    have hl:l=[]:=by
     rcases Nat.eq_zero_or_pos l.length with h|h
     ·exact List.eq_nil_of_length_eq_zero h
     ·obtain ⟨b,off,h1,_⟩:=hr h
      cases h1
    subst hl
    refine ⟨v,w,?_,by simpa [Lib.byteCells] using hown,⟨rfl,rfl,rfl,Nat.le_refl _,fun _ _ _=>rfl⟩,.inl rfl⟩
    show (Builtin.append_ #[t,t] o.type #[v,.slice none 0 c]).run P w=.ok v w
    rcases hown.2 with ⟨rfl,rfl⟩|⟨g,cap,cur,rfl,_,_,hnc,_⟩
    ·simp [Builtin.append_,run_underlying ht,sizeOf,typeInfo,hi,Builtin.lenOf,Builtin.firstCells]
    ·simp [Builtin.append_,run_underlying ht,sizeOf,typeInfo,hi,Builtin.lenOf,Builtin.firstCells,hnc,storeCells]
  | some ad =>
    have hc:∀ j u,(Lib.byteCells l)[j]?=some u→w.cell? (ad.add j)=some u:=by
     intro j u hu
     simp only [Lib.byteCells,List.getElem?_map,Option.map_eq_some_iff] at hu
     obtain ⟨y,hy,rfl⟩:=hu
     obtain ⟨b,off,h1,_,h2⟩:=hr (by have:=(List.getElem?_eq_some_iff.1 hy).1;omega)
     obtain rfl:ad=⟨b,off,none⟩:=by injection h1
     rw [add_plain]
     exact h2 j y hy
    obtain ⟨v',w',h1,h2,h3,_,h4⟩:=run_append_own_at (P:=P) (w:=w) base t o.type e i (.int .u8 0) 1 1 ht hi hz hsize hby rfl (by decide) v n xs hown ad l.length c (Lib.byteCells l) (by simp [Lib.byteCells_length]) hc (bytes_one l) (by unfold maxLen;omega) (by omega) hbase
    exact ⟨v',w',h1,h2,h3,h4⟩
 obtain ⟨v',w',hrun,h1,h2,h3⟩:=hrun
 unfold Oper.wp
 simp [execOp,ho,resolve,invoke,builtin,hs,hx,hrun,Result.andThen]
 exact h v' w' h1 h2 h3
theorem own_later {w w':World} {base:Nat} {v:Value} {n:Nat} {xs:List Value} (h:w.ownsRow base 5 1 v n xs) (hl:Later w w'):w'.ownsRow base 5 1 v n xs:=by
 refine ⟨h.1,?_⟩
 rcases h.2 with h2|⟨g,cap,cur,h3,h4,h5,h6⟩
 ·exact .inl h2
 ·refine .inr ⟨g,cap,cur,h3,h4,(hl.block g ?_).trans h5,h6⟩
  rcases Nat.lt_or_ge g w.heap.size with hlt|hge
  ·exact hlt
  ·rw [Array.getElem?_eq_none hge] at h5;cases h5
theorem Rd.lt {w:World} {g:Nat} {l:List UInt8} (h:Rd w (some ⟨g,0,none⟩) l) (hl:0<l.length):g<w.heap.size:=by
 obtain ⟨b,off,e,hb,_⟩:=h hl
 simp only [Option.some.injEq,Addr.mk.injEq,and_true] at e
 omega
def MAt (B:Nat) (v:Value) (ms:List UInt8) (w0 wr:World):Prop :=
 wr.ownsRow B 5 1 v ms.length (Lib.byteCells ms)∧Below B w0 wr∧B=w0.heap.size
theorem MAt.push {B:Nat} {v v':Value} {ms x:List UInt8} {w0 wr wa w':World} (h:MAt B v ms w0 wr) (ha:Below wr.heap.size wr wa) (hown:w'.ownsRow B 5 1 v' (ms.length+x.length) (Lib.byteCells ms++Lib.byteCells x)) (hg:wa.grownBy w' v.ownBlock):MAt B v' (ms++x) w0 w':=by
 refine ⟨by rw [List.length_append,Lib.byteCells_append];exact hown,?_,h.2.2⟩
 have hb:Below B w0 wa:=h.2.1.trans (ha.mono (by have:=h.2.1.size;have:=h.2.2;omega))
 exact hb.grown hg (by have:=h.2.1.size;have:=ha.size;have:=h.2.2;omega) (fun k hk=>h.1.ownBlock_ge k hk)
theorem MAt.own {B:Nat} {v:Value} {ms:List UInt8} {w0 wr wa:World} (h:MAt B v ms w0 wr) (ha:Below wr.heap.size wr wa):wa.ownsRow B 5 1 v ms.length (Lib.byteCells ms):=by
 refine ⟨h.1.1,?_⟩
 rcases h.1.2 with h2|⟨g,cap,cur,h3,h4,h5,h6⟩
 ·exact .inl h2
 ·refine .inr ⟨g,cap,cur,h3,h4,(ha.block g ?_).trans h5,h6⟩
  rcases Nat.lt_or_ge g wr.heap.size with hlt|hge
  ·exact hlt
  ·rw [Array.getElem?_eq_none hge] at h5;cases h5
theorem rd_new (w:World) (b:UInt8) (X:Int) (t:TypeId) (h:((b.toNat:Nat):Int)=X):Rd (w.alloc (.cells #[.int .u8 X] t)) (some ⟨w.heap.size,0,none⟩) [b]:=by
 subst h
 exact rd_one w b t
theorem below_new (w:World) (o:Obj):Below w.heap.size w (w.alloc o):=(Below.refl _ _).alloc (Nat.le_refl _) o
theorem MAt.below {B:Nat} {v:Value} {ms:List UInt8} {w0 wr w':World} (h:MAt B v ms w0 wr) (hb:Below wr.heap.size wr w'):MAt B v ms w0 w' :=
 ⟨h.own hb,h.2.1.trans (hb.mono (by have:=h.2.1.size;have:=h.2.2;omega)),h.2.2⟩
theorem later_drew {w w2:World} (h:Below w.drew.heap.size w.drew w2):Later w w2:=⟨h.os,h.tape,h.output,h.size,h.block⟩
theorem own_lt {w:World} {base n k:Nat} {v:Value} {xs:List Value} (h:w.ownsRow base 5 1 v n xs) (hk:v.ownBlock=some k):base≤k∧k<w.heap.size:=by
 rcases h.2 with ⟨rfl,_⟩|⟨g,cap,cur,rfl,hb,hh,_⟩
 ·cases hk
 ·simp only [Value.ownBlock,Option.some.injEq] at hk
  subst hk
  refine ⟨hb,?_⟩
  rcases Nat.lt_or_ge g w.heap.size with hlt|hge
  ·exact hlt
  ·rw [Array.getElem?_eq_none hge] at hh;cases hh
theorem own_base {w:World} {base n:Nat} {v:Value} {xs:List Value} (h:w.ownsRow base 5 1 v n xs):w.ownsRow 0 5 1 v n xs:=own_mono h (Nat.zero_le _)
def RdI (w:World) (A:Option Addr) (l:List Int):Prop :=
 ∀ j x,l[j]?=some x→(-9223372036854775808≤x∧x≤9223372036854775807)∧∃ b off,A=some ⟨b,off,none⟩∧b<w.heap.size∧w.cell? ⟨b,off+j,none⟩=some (.int .i64 x)
theorem part_h (A:Option Addr) (l:List UInt8) (cap hi:Nat) (h2:hi≤l.length) (h3:l.length≤cap):∃ r,Hid (∀ W,(Instr.sliceAt 23 (.slice A l.length cap) none (some (.int .i64 hi)) none).run Tryz.prog W=.ok (.slice A (List.length r) cap) W) ∧
    r.length≤cap∧Hid (∀ W,Rd W A l→Rd W A r)∧Hid (r=l.take hi)∧Hid (r.length=hi)∧r.length≤l.length:=by
 have hl:(l.take hi).length=hi:=by rw [List.length_take];omega
 refine ⟨l.take hi,?_,by omega,fun W hr=>hr.take _,rfl,hl,by omega⟩
 intro W;rw [hl];exact sl_h W A _ cap hi (by omega)
theorem rd_alloc (w:World) (l:List UInt8) (t:TypeId) (fz:Nat × Nat):Rd (w.alloc (.cells (Lib.byteCells l).toArray t fz)) (some ⟨w.heap.size,0,none⟩) l:=fun _=>by
 refine ⟨_,_,rfl,by rw [World.size_alloc];omega,fun j x hx=>?_⟩
 rw [cell_of_row _ w.heap.size (0+j) _ _ _ (heap_alloc_new w _),Nat.zero_add]
 simp only [List.getElem?_toArray,Lib.byteCells,List.getElem?_map,hx,Option.map_some]
end Go.Proofs.YtbnpgakmhhfjkaaGreatDoor
namespace Go.Proofs.YtbnpgakmhhfjkaaGreatDoor
open Go.ChangeShapes Go.WideShapes Go.RowKit Go.Deep
theorem Tryz.own:ownKnob Tryz.prog.godebug=none:=by kernel_rfl
theorem Tryz.laidOut:laidOutB Tryz.prog=true:=by kernel_rfl
theorem nums_of {H:Type} {enc:TypeId × Value→H} {W:World} {fuel:Nat} {v:Value} {x:DataW H × List MemPlace} {t e:TypeId} {k:IntKind} (ht:Tryz.prog.underlying t=some (.slice e)) (he:Tryz.prog.underlying e=some (.int k)) (hc:Tryz.prog.cellsOf e=1)
    (h:DataW.trod enc Tryz.prog W 0 (fun _=>true) true fuel t [v]=some x) :
    ∃ (ns:List Int) (A:Option Addr) (cap:Nat),v=.slice A ns.length cap∧ns.length≤cap∧cap≤maxLen∧∀ (j:Nat) (n:Int),ns[j]?=some n→(Lit.int k n).wf=true∧∃ b off,A=some ⟨b,off,none⟩∧b<W.heap.size∧W.cell? ⟨b,off+j,none⟩=some (.int k n):=by
 rcases open_slice1 ht hc h with ⟨hcs,_⟩|⟨a,len,cap,m,n,V,D,Pl,hcs,_,hl,hm,hmm,_,hi⟩
 ·simp only [List.cons.injEq,and_true] at hcs
  exact ⟨[],none,0,hcs,by simp,by simp,fun j n hj=>by simp at hj⟩
 ·simp only [List.cons.injEq,and_true] at hcs
  subst hcs
  simp only [if_true] at hmm
  have key:∀ i:Fin len,∃ n:Int,W.cell? (a.add i)=some (.int k n)∧(Lit.int k n).wf=true:=fun i=>by
   obtain ⟨h1,h2⟩:=hi i (by have:=i.2;omega)
   obtain ⟨n,h3,_,h4⟩:=DataW.trod_int he h2
   simp only [List.cons.injEq,and_true] at h3
   exact ⟨n,by rw [h1,h3],h4⟩
  obtain ⟨f,hf⟩:=Classical.axiomOfChoice key
  refine ⟨List.ofFn f,some a,cap,by rw [List.length_ofFn],by rw [List.length_ofFn];exact hl,hm,fun j n hj=>?_⟩
  have hjl:j<len:=by
   have:=(List.getElem?_eq_some_iff.1 hj).1
   simpa using this
  have e:n=f ⟨j,hjl⟩:=by
   rw [List.getElem?_ofFn,dif_pos hjl] at hj
   exact (Option.some.inj hj).symm
  subst e
  have hp:∃ b off,a=⟨b,off,none⟩:=by
   have hs:=World.cell?_spot (hf ⟨0,by omega⟩).1
   obtain ⟨b,off,spot⟩:=a
   have:spot=none:=by
    simpa [Addr.add] using hs
   exact ⟨b,off,by rw [this]⟩
  obtain ⟨b,off,rfl⟩:=hp
  have g:=hf ⟨j,hjl⟩
  simp only [add_plain] at g
  refine ⟨g.2,b,off,rfl,?_,g.1⟩
  rcases Nat.lt_or_ge b W.heap.size with hlt|hge
  ·exact hlt
  ·have:=g.1
   simp [World.cell?,Array.getElem?_eq_none hge] at this
theorem max_le {n:Nat} (h:n≤maxLen):n≤9223372036854775807:=by unfold maxLen at h;omega
end Go.Proofs.YtbnpgakmhhfjkaaGreatDoor
namespace Go.Proofs.YtbnpgakmhhfjkaaGreatDoor.Rg
open Go Go.RowKit
structure Fact where
 holds:Value→World→Prop
 own:Value→Option Nat
 keep:∀ v w w' row,holds v w→w.grownBy w' row→(∀ b,own v=some b→b<w.heap.size∧row≠some b)→holds v w'
def NoExit:Exit→Act→World→Prop:=fun _ _ _=>False
theorem not_lets:¬ LetsOut NoExit:=fun ⟨_,_,h⟩=>h
structure Frm (ops:Array Oper) (L:Nat→Prop) (V:Nat→Value) (a0 a:Act):Prop where
 defers:a.defers=a0.defers
 size:a.tmps.size=a0.tmps.size
 put:∀ i o d,ops[i]?=some o→o.dst=some d→L i→a.tmps[d]?=if d<a0.tmps.size then some (V i) else none
 rest:∀ t,(∀ i o,ops[i]?=some o→L i→o.dst≠some t)→a.tmps[t]?=a0.tmps[t]?
def distinct (ops:Array Oper):Bool :=
 (List.range ops.size).all fun i=>(List.range ops.size).all fun j=>i==j || (match ops[i]?,ops[j]? with|some x,some y=>x.dst.isNone || x.dst != y.dst|_,_=>true)
theorem distinct_spec {ops:Array Oper} (h:distinct ops=true) {i j:Nat} {x y:Oper} {d:Nat} (hx:ops[i]?=some x) (hy:ops[j]?=some y) (hne:i≠j) (hd:x.dst=some d):y.dst≠some d:=by
 unfold distinct at h
 rw [List.all_eq_true] at h
 have h1:=h i (List.mem_range.2 (Array.getElem?_eq_some_iff.1 hx).1)
 rw [List.all_eq_true] at h1
 have h2:=h1 j (List.mem_range.2 (Array.getElem?_eq_some_iff.1 hy).1)
 simp only [hx,hy,hd,beq_iff_eq,hne,Bool.or_eq_true,false_or,Option.isNone_some,Bool.false_eq_true,bne_iff_ne,ne_eq] at h2
 exact fun e=>h2 e.symm
theorem put_size (a:Act) (d:Option Tmp) (v:Value):(a.put d v).tmps.size=a.tmps.size:=by cases d <;> simp [Act.put]
theorem put_defers' (a:Act) (d:Option Tmp) (v:Value):(a.put d v).defers=a.defers:=by cases d <;> rfl
theorem put_same (a:Act) (d:Nat) (v:Value):(a.put (some d) v).tmps[d]?=if d<a.tmps.size then some v else none:=by
 simp [Act.put,Array.getElem?_setIfInBounds]
theorem put_other (a:Act) (x:Option Tmp) (t:Nat) (v:Value) (h:x≠some t):(a.put x v).tmps[t]?=a.tmps[t]?:=by
 cases x with
 | none=>rfl
 | some d =>
   have:d≠t:=fun e=>h (by rw [e])
   simp [Act.put,Array.getElem?_setIfInBounds_ne this]
theorem Frm.refl (ops:Array Oper) (V:Nat→Value) (a:Act):Frm ops (fun _=>False) V a a:=⟨rfl,rfl,fun _ _ _ _ _ h=>h.elim,fun _ _=>rfl⟩
theorem Frm.congr {ops:Array Oper} {L L':Nat→Prop} {V V':Nat→Value} {a0 a:Act} (h:Frm ops L V a0 a) (hL:∀ i,L i↔L' i) (hV:∀ i,L i→V' i=V i):Frm ops L' V' a0 a :=
 ⟨h.defers,h.size,fun i o d ho hd hi=>by rw [hV i ((hL i).2 hi)];exact h.put i o d ho hd ((hL i).2 hi),fun t ht=>h.rest t (fun i o ho hi=>ht i o ho ((hL i).1 hi))⟩
theorem Frm.step {ops:Array Oper} {L:Nat→Prop} {V:Nat→Value} {a0 a:Act} (hd:distinct ops=true) (h:Frm ops L V a0 a) (i:Nat) (o:Oper) (ho:ops[i]?=some o) (_hi:¬ L i) (v:Value) :
    Frm ops (fun k=>k=i∨L k) (fun k=>if k=i then v else V k) a0 (a.put o.dst v):=by
 refine ⟨(put_defers' _ _ _).trans h.defers,(put_size _ _ _).trans h.size,fun k ok d hok hkd hk=>?_,fun t ht=>?_⟩
 ·by_cases e:k=i
  ·subst e
   obtain rfl:ok=o:=by rw [ho] at hok;exact (Option.some.inj hok).symm
   rw [hkd,put_same,h.size,if_pos rfl]
  ·rw [put_other _ _ _ _ (distinct_spec hd hok ho e hkd),if_neg e]
   exact h.put k ok d hok hkd (hk.resolve_left e)
 ·rw [put_other _ _ _ _ (ht i o ho (.inl rfl))]
  exact h.rest t (fun k ok hok hk=>ht k ok hok (.inr hk))
theorem Frm.at_ {ops:Array Oper} {L U:Nat→Prop} {V:Nat→Value} {a0 a b:Act} (ha:Frm ops L V a0 a) (hb:Frm ops U V a0 b) (t:Nat) (h:∀ i o,ops[i]?=some o→o.dst=some t→(L i↔U i)):a.tmps[t]?=b.tmps[t]?:=by
 by_cases hx:∃ i o,ops[i]?=some o∧L i∧o.dst=some t
 ·obtain ⟨i,o,ho,hi,hd⟩:=hx
  rw [ha.put i o t ho hd hi,hb.put i o t ho hd ((h i o ho hd).1 hi)]
 ·rw [ha.rest t (fun i o ho hi hd=>hx ⟨i,o,ho,hi,hd⟩),hb.rest t (fun i o ho hi hd=>hx ⟨i,o,ho,(h i o ho hd).2 hi,hd⟩)]
theorem Frm.uniq {ops:Array Oper} {L:Nat→Prop} {V:Nat→Value} {a0 a b:Act} (ha:Frm ops L V a0 a) (hb:Frm ops L V a0 b):a=b:=by
 have h1:a.tmps=b.tmps:=Array.ext_getElem? fun t=>ha.at_ hb t (fun _ _ _ _=>Iff.rfl)
 have h2:=ha.defers.trans hb.defers.symm
 cases a;cases b
 simp_all
def putList:List Oper→Nat→(Nat→Value)→Act→Act
 | [],_,_,a=>a
 | o :: l,n,V,a=>putList l (n+1) V (a.put o.dst (V n))
theorem Frm.putList {ops:Array Oper} {V:Nat→Value} {a0:Act} (hd:distinct ops=true):∀ (l:List Oper) (n:Nat) (a:Act),(∀ k,k<l.length→l[k]?=ops[n+k]?)→Frm ops (fun i=>i<n) V a0 a→Frm ops (fun i=>i<n+l.length) V a0 (putList l n V a)
 | [],_,_,_,h=>h
 | o :: l,n,a,hl,h=>by
   have h0:=hl 0 (by simp)
   simp only [List.getElem?_cons_zero,Nat.add_zero] at h0
   have h1:=(h.step hd n o h0.symm (Nat.lt_irrefl n) (V n)).congr (L':=fun i=>i<n+1) (V':=V) (fun i=>by omega) (fun i _=>by by_cases e:i=n <;> simp [e])
   have h2:=Frm.putList hd l (n+1) _ (fun k hk=>by have:=hl (k+1) (by simp;omega);simp only [List.getElem?_cons_succ] at this;rw [this];congr 1;omega) h1
   exact h2.congr (fun i=>by simp only [List.length_cons];omega) (fun _ _=>rfl)
def putUse (V:Nat→Value):List (Nat × Nat)→Act→Act
 | [],a=>a
 | x :: l,a=>(putUse V l a).put (some x.2) (V x.1)
theorem Frm.putUse {ops:Array Oper} {V:Nat→Value} {a0:Act} (hd:distinct ops=true):∀ (l:List (Nat × Nat)),(∀ x,x ∈ l→(ops[x.1]?).bind (·.dst)=some x.2)→(l.map (·.1)).Nodup→Frm ops (fun i=>i ∈ l.map (·.1)) V a0 (putUse V l a0)
 | [],_,_=>(Frm.refl ops V a0).congr (fun i=>by simp) (fun _ _=>rfl)
 | x :: l,hl,hn=>by
   have hi:=hl x (by simp)
   obtain ⟨o,ho,hod⟩:=Option.bind_eq_some_iff.1 hi
   have h1:=Frm.putUse (V:=V) (a0:=a0) hd l (fun k hk=>hl k (by simp [hk])) (List.nodup_cons.1 hn).2
   have h2:=(h1.step hd x.1 o ho (List.nodup_cons.1 hn).1 (V x.1)).congr (L':=fun k=>k ∈ (x :: l).map (·.1)) (V':=V) (fun k=>by simp) (fun k _=>by by_cases e:k=x.1 <;> simp [e])
   rw [hod] at h2
   exact h2
theorem use_size (V:Nat→Value) (a:Act):∀ l:List (Nat × Nat),(putUse V l a).tmps.size=a.tmps.size
 | []=>rfl
 | _ :: l=>(put_size _ _ _).trans (use_size V a l)
theorem use_eval (V:Nat→Value) (a:Act) (t:Nat):∀ (l:List (Nat × Nat)),(l.all (fun x=>decide (x.2<a.tmps.size))=true)→(putUse V l a).eval (.tmp t)=(match l.find? (fun x=>x.2==t) with|some x=>V x.1|none=>a.eval (.tmp t))
 | [],_=>rfl
 | x :: l,h=>by
   simp only [List.all_cons,Bool.and_eq_true,decide_eq_true_eq] at h
   have ih:=use_eval V a t l h.2
   have hs:=use_size V a l
   simp only [List.find?_cons]
   by_cases e:x.2=t
   ·simp only [e,beq_self_eq_true,putUse,Act.eval,Array.getD_eq_getD_getElem?]
    rw [put_same,if_pos (by rw [hs,← e];exact h.1)]
    rfl
   ·have e2:(x.2==t)=false:=by simpa using e
    simp only [e2,putUse]
    rw [← ih]
    simp only [Act.eval,Array.getD_eq_getD_getElem?]
    rw [put_other _ _ _ _ (by simpa using e)]
section
variable {P:Program} {ops:Array Oper} {Q:Exit→Act→World→Prop} {md:Region.Mode}
def Does (P:Program) (ops:Array Oper) (o:Oper) (b:Act) (w:World) (R:Value→World→Prop):Prop :=
 (Region.wanted o (yielded ops b.tmps)=false∧R undef w) ∨
 (Region.wanted o (yielded ops b.tmps)=true∧∀ K:Act→World→Prop,(∀ v w',R v w'→K (b.put o.dst v) w')→o.wp P b w K NoExit)
theorem put_inj {a b:Act} {d:Option Tmp} {u v:Value} (hs:a.tmps.size=b.tmps.size) (h:b.put d u=b.put d v):a.put d u=a.put d v:=by
 cases d with
 | none=>rfl
 | some d =>
   by_cases hlt:d<b.tmps.size
   ·have h1:=congrArg (fun x:Act=>x.tmps[d]?) h
    simp only [put_same,hlt,if_true,Option.some.injEq] at h1
    rw [h1]
   ·have e:∀ x:Value,a.put (some d) x=a:=fun x=>by
     have:a.tmps.setIfInBounds d x=a.tmps:=by
      apply Array.ext_getElem?
      intro t
      have h1:a.tmps.size≤d:=by rw [hs];exact Nat.le_of_not_lt hlt
      rw [Array.getElem?_setIfInBounds]
      by_cases e:d=t
      ·rw [if_pos e,if_neg (Nat.not_lt.2 h1),← e,Array.getElem?_eq_none h1]
      ·rw [if_neg e]
     simp [Act.put,this]
    rw [e,e]
theorem Does.at_ {o:Oper} {a b:Act} {w:World} {R:Value→World→Prop} {j:Nat} (hj:ops[j]?=some o) (hsel:∀ cs x,o.op≠.select cs x) (hs:a.tmps.size=b.tmps.size) (hl:∀ t,t ∈ o.looksAt ops→a.tmps[t]?=b.tmps[t]?)
    (h:Does P ops o b w R) {K:Act→World→Prop} (hK:∀ v w',R v w'→K (a.put o.dst v) w'):wpOp P ops Q j K a w:=by
 have he:execOp a.eval o=execOp b.eval o:=execOp_congr o hsel fun x hx=>by
  cases x with
  | tmp t =>
    have:=hl t (List.mem_append_left _ (List.mem_filterMap.2 ⟨.tmp t,by simpa using hx,rfl⟩))
    simp only [Act.eval,Array.getD_eq_getD_getElem?,this]
  | _=>rfl
 have hw:Region.wanted o (yielded ops a.tmps)=Region.wanted o (yielded ops b.tmps):=by
  unfold Region.wanted
  cases hg:o.guard with
  | none=>rfl
  | some gw =>
    obtain ⟨g,want⟩:=gw
    have:yielded ops a.tmps g=yielded ops b.tmps g:=by
     unfold yielded
     cases ht:(ops[g]?).bind (·.dst) with
     | none=>rfl
     | some t =>
       have:=hl t (List.mem_append_right _ (by simp [hg,ht]))
       simp [this]
    simp only [this]
 unfold Go.wpOp
 simp only [hj]
 rcases h with ⟨h1,h2⟩|⟨h1,h2⟩
 ·rw [hw,h1]
  simp only [Bool.false_eq_true,if_false]
  exact hK _ _ h2
 ·rw [hw,h1]
  simp only [if_true]
  refine .inl ?_
  have h3:=h2 (fun b' w'=>∃ v,R v w'∧b'=b.put o.dst v) (fun v w' hr=>⟨v,hr,rfl⟩)
  unfold Oper.wp at h3 ⊢
  rw [he]
  generalize (execOp b.eval o).run P w=r at h3
  have fin:∀ u w',(∃ v,R v w'∧b.put o.dst u=b.put o.dst v)→K (a.put o.dst u) w':=fun u w' ⟨v,hr,e⟩=>by
   rw [put_inj hs e];exact hK v w' hr
  cases r with
  | ok n w' =>
    cases n <;> simp only [Oper.upon] at h3 ⊢
    case value u=>exact fin _ _ h3
    case skip=>exact fin _ _ h3
    case defer d =>
     obtain ⟨v,_,e⟩:=h3
     have:=congrArg (fun x:Act=>x.defers.length) e
     simp [put_defers'] at this
    case enter f args =>
     refine Calls.mono h3 fun e w'' he=>?_
     cases e with
     | returned u=>exact fin _ _ he
     | panicked c=>exact he.elim
     | outgrown=>exact (not_lets he).elim
    case row row args=>exact Rows.mono h3 fun u w'' he=>fin _ _ he
  | halt x w'=>cases x <;> simp only [Oper.upon,NoExit] at h3
theorem Does.skip {o:Oper} {b:Act} {w:World} {R:Value→World→Prop} (hw:Region.wanted o (yielded ops b.tmps)=false) (hr:R undef w):Does P ops o b w R:=.inl ⟨hw,hr⟩
/-! ### The whole region -/
variable (F:Nat→Fact) (cons:Nat→Option Nat) (E:Nat→(Nat→Value)→Value→Prop)
def Live (cons:Nat→Option Nat) (L:Nat→Prop) (i:Nat):Prop:=L i∧∀ k,L k→cons k≠some i
structure Inv (W0:World) (L:Nat→Prop) (V:Nat→Value) (w:World):Prop where
 later:Below W0.heap.size W0 w
 holds:∀ i,Live cons L i→(F i).holds (V i) w
 lt:∀ i b,Live cons L i→(F i).own (V i)=some b→W0.heap.size≤b∧b<w.heap.size
 sep:∀ i j b,Live cons L i→Live cons L j→i≠j→(F i).own (V i)=some b→(F j).own (V j)≠some b
 eqs:∀ j,L j→E j V (V j)
def src (V:Nat→Value) (j:Nat):Option Nat:=(cons j).bind fun i=>(F i).own (V i)
def Good (_W0:World) (V:Nat→Value) (j:Nat) (w:World) (v:Value) (w':World):Prop :=
 w.grownBy w' (src F cons V j)∧(F j).holds v w'∧(∀ b,(F j).own v=some b→((src F cons V j=some b∨w.heap.size≤b)∧b<w'.heap.size))∧E j V v
variable {F cons E}
theorem Inv.step {W0:World} {L:Nat→Prop} {V:Nat→Value} {w w':World} {j:Nat} {v:Value} (h:Inv F cons E W0 L V w) (hj:¬ L j) (hc:∀ i,cons j=some i→Live cons L i) (hnc:∀ k,L k→cons k≠some j) (hjj:cons j≠some j) (hse:∀ k,L k→∀ V',(∀ i,L i→V i=V' i)→E k V (V k)→E k V' (V k)) (hsj:∀ V',(∀ i,L i→V i=V' i)→E j V v→E j V' v) (hg:Good F cons E W0 V j w v w') :
    Inv F cons E W0 (fun k=>k=j∨L k) (fun k=>if k=j then v else V k) w':=by
 obtain ⟨hg,hf,ho,heq⟩:=hg
 have live:∀ k,k≠j→Live cons (fun k=>k=j∨L k) k→Live cons L k∧cons j≠some k:=fun k hk ⟨h1,h2⟩=>⟨⟨h1.resolve_left hk,fun m hm=>h2 m (.inr hm)⟩,h2 j (.inl rfl)⟩
 have hsrc:∀ b,src F cons V j=some b→∃ i,cons j=some i∧Live cons L i∧(F i).own (V i)=some b:=fun b hb=>by
  unfold src at hb
  cases hcj:cons j with
  | none=>rw [hcj] at hb;cases hb
  | some i=>rw [hcj] at hb;exact ⟨i,rfl,hc i hcj,hb⟩
 have far:∀ k,k≠j→Live cons (fun k=>k=j∨L k) k→∀ b,(F k).own (V k)=some b→b<w.heap.size∧src F cons V j≠some b:=fun k hk hl b hb=>by
  obtain ⟨h1,h2⟩:=live k hk hl
  refine ⟨(h.lt k b h1 hb).2,fun e=>?_⟩
  obtain ⟨i,hi,hli,hob⟩:=hsrc b e
  exact h.sep k i b h1 hli (fun e2=>h2 (by rw [e2];exact hi)) hb hob
 have agree:∀ i,L i→V i=(fun k=>if k=j then v else V k) i:=fun i hi=>by
  have:i≠j:=fun e=>hj (e ▸ hi)
  simp [this]
 refine ⟨?_,fun k hk=>?_,fun k b hk hb=>?_,fun i k b hi hk hne hib hkb=>?_,fun k hk=>?_⟩
 ·exact Below.grown h.later hg h.later.size (fun k hk=>by obtain ⟨i,_,hli,hob⟩:=hsrc k hk;exact (h.lt i k hli hob).1)
 ·by_cases e:k=j
  ·subst e;rw [if_pos rfl];exact hf
  ·rw [if_neg e]
   exact (F k).keep _ _ _ _ (h.holds k (live k e hk).1) hg (far k e hk)
 ·by_cases e:k=j
  ·subst e
   rw [if_pos rfl] at hb
   obtain ⟨h1,h2⟩:=ho b hb
   refine ⟨?_,h2⟩
   rcases h1 with h1|h1
   ·obtain ⟨i,_,hli,hob⟩:=hsrc b h1;exact (h.lt i b hli hob).1
   ·exact Nat.le_trans h.later.size h1
  ·rw [if_neg e] at hb
   have:=h.lt k b (live k e hk).1 hb
   exact ⟨this.1,Nat.lt_of_lt_of_le this.2 hg.size⟩
 ·by_cases ei:i=j
  ·subst ei
   rw [if_pos rfl] at hib
   rw [if_neg (Ne.symm hne)] at hkb
   obtain ⟨h1,h2⟩:=far k (Ne.symm hne) hk b hkb
   rcases (ho b hib).1 with h3|h3
   ·exact h2 h3
   ·omega
  ·rw [if_neg ei] at hib
   by_cases ek:k=j
   ·subst ek
    rw [if_pos rfl] at hkb
    obtain ⟨h1,h2⟩:=far i ei hi b hib
    rcases (ho b hkb).1 with h3|h3
    ·exact h2 h3
    ·omega
   ·rw [if_neg ek] at hkb
    exact h.sep i k b (live i ei hi).1 (live k ek hk).1 hne hib hkb
 ·by_cases e:k=j
  ·subst e
   rw [if_pos rfl]
   exact hsj _ agree heq
  ·rw [if_neg e]
   have hk2:=hk.resolve_left e
   exact hse k hk2 _ agree (h.eqs k hk2)
end
section
variable {P:Program} {ops:Array Oper} {Q:Exit→Act→World→Prop}
def consOf (cons:List (Nat × Nat)) (j:Nat):Option Nat:=(cons.find? fun x=>x.1==j).map (·.2)
theorem consOf_mem {cons:List (Nat × Nat)} {j i:Nat} (h:consOf cons j=some i):(j,i) ∈ cons:=by
 unfold consOf at h
 obtain ⟨x,hx,rfl⟩:=Option.map_eq_some_iff.1 h
 have h1:=List.mem_of_find?_eq_some hx
 have h2:=List.find?_some hx
 simp only [beq_iff_eq] at h2
 rw [← h2];exact h1
def nums (use:List (List (Nat × Nat))) (j:Nat):List Nat:=(use.getD j []).map (·.1)
def check (ops:Array Oper) (use:List (List (Nat × Nat))) (cons:List (Nat × Nat)):Bool :=
 distinct ops&&Region.noSelect ops &&
 (List.range ops.size).all (fun j=>match ops[j]? with
  | none=>false
  | some o =>
    (use.getD j []).all (fun i=>(ops[i.1]?).bind (·.dst)==some i.2&&o.after.any (fun e=>Region.binds .any e&&e.on==i.1)) &&
    o.after.all (fun e=>!Region.binds .any e || decide (e.on<j)) &&
    (o.looksAt ops).all (fun t=>(List.range ops.size).all fun i=>(nums use j).contains i || (match ops[i]? with|some x=>x.dst != some t|none=>true)) &&
    decide ((nums use j).Nodup) &&
    (nums use j).all (fun i=>cons.all fun x=>x.2 != i || x.1==j) &&
    (match o.guard with|some (g,_)=>(nums use j).contains g|none=>true)) &&
 cons.all (fun x=>(nums use x.1).contains x.2&&decide (x.1<ops.size))
def Holds (F:Nat→Fact) (V:Nat→Value) (w:World):List Nat→Prop
 | []=>True
 | i :: l=>(F i).holds (V i) w∧Holds F V w l
def Steps (C:Nat→Oper→Prop):Nat→List Oper→Prop
 | _,[]=>True
 | n,o :: l=>C n o∧Steps C (n+1) l
theorem Steps.nil {C:Nat→Oper→Prop} {n:Nat}:Steps C n []:=trivial
theorem Steps.cons {C:Nat→Oper→Prop} {n:Nat} {o:Oper} {l:List Oper} (h:C n o) (k:Steps C (n+1) l):Steps C n (o :: l):=⟨h,k⟩
theorem Steps.get {C:Nat→Oper→Prop}:∀ {l:List Oper} {n:Nat},Steps C n l→∀ k o,l[k]?=some o→C (n+k) o
 | [],_,_,_,_,h=>by simp at h
 | x :: l,n,⟨h1,h2⟩,k,o,h=>by
   cases k with
   | zero=>simp only [List.getElem?_cons_zero,Option.some.injEq] at h;subst h;exact h1
   | succ k=>simp only [List.getElem?_cons_succ] at h;have:=Steps.get h2 k o h;rwa [show n+1+k=n+(k+1) by omega] at this
theorem getD_set (l:Array Bool) (i k:Nat):((l.setIfInBounds i true).getD k false=true)↔((k=i∧i<l.size)∨l.getD k false=true):=by
 simp only [Array.getD_eq_getD_getElem?,Array.getElem?_setIfInBounds]
 by_cases e:i=k
 ·subst e
  by_cases h:i<l.size
  ·simp [h]
  ·simp [h]
 ·simp [e,Ne.symm e]
theorem left_set:∀ (l:List Bool) (i:Nat),l[i]?=some false→((l.set i true).filter (!·)).length+1=(l.filter (!·)).length
 | [],_,h=>by simp at h
 | x :: l,0,h=>by simp only [List.getElem?_cons_zero,Option.some.injEq] at h;subst h;simp
 | x :: l,i+1,h=>by
   simp only [List.getElem?_cons_succ] at h
   have:=left_set l i h
   cases x <;> simp [] <;> omega
theorem left_none:∀ (l:List Bool),(l.filter (!·)).length=0→∀ i,i<l.length→l[i]?=some true
 | [],_,i,h=>by simp at h
 | x :: l,h,i,hi=>by
   cases x with
   | false=>simp at h
   | true =>
     cases i with
     | zero=>rfl
     | succ i=>simp only [List.getElem?_cons_succ];exact left_none l (by simpa using h) i (by simpa using hi)
theorem run_all (use:List (List (Nat × Nat))) (cons:List (Nat × Nat)) (hchk:check ops use cons=true) (F:Nat→Fact) (E:Nat→(Nat→Value)→Value→Prop) (hE:∀ j V V' v,(∀ i ∈ nums use j,V i=V' i)→E j V v→E j V' v) (a0:Act) (W0:World)
    (hstep:∀ j o,ops[j]?=some o→∀ V w,Below W0.heap.size W0 w→Holds F V w (nums use j)→Does P ops o (putUse V (use.getD j []) a0) w (Good F (consOf cons) E W0 V j w))
    (hend:∀ V w a,Inv F (consOf cons) E W0 (fun i=>i<ops.size) V w→Frm ops (fun i=>i<ops.size) V a0 a→Q .normal a w) :
    ∀ (fuel:Nat) (listed:Array Bool) (V:Nat→Value) (a:Act) (w:World),listed.size=ops.size→(listed.toList.filter (!·)).length≤fuel →
     (∀ k o,ops[k]?=some o→listed.getD k false=true→∀ e ∈ o.after,Region.binds .any e=true→listed.getD e.on false=true) →
     Inv F (consOf cons) E W0 (fun i=>listed.getD i false=true) V w→Frm ops (fun i=>listed.getD i false=true) V a0 a→wpAny P .any ops Q fuel listed a w:=by
 simp only [check,Bool.and_eq_true] at hchk
 obtain ⟨⟨⟨hdis,hsel⟩,hops⟩,hcons⟩:=hchk
 have hO:∀ j o,ops[j]?=some o→(∀ x ∈ use.getD j [],(ops[x.1]?).bind (·.dst)=some x.2)∧(∀ i ∈ nums use j,∃ e ∈ o.after,Region.binds .any e=true∧e.on=i)∧(∀ e ∈ o.after,Region.binds .any e=true→e.on<j) ∧
     (∀ t ∈ o.looksAt ops,∀ i x,ops[i]?=some x→x.dst=some t→i ∈ nums use j)∧(nums use j).Nodup∧(∀ i ∈ nums use j,∀ x ∈ cons,x.2=i→x.1=j):=by
  intro j o ho
  have h:=List.all_eq_true.1 hops j (List.mem_range.2 (Array.getElem?_eq_some_iff.1 ho).1)
  simp only [ho,Bool.and_eq_true] at h
  obtain ⟨⟨⟨⟨⟨h1,h2⟩,h3⟩,h4⟩,h5⟩,_⟩:=h
  have h1':∀ x ∈ use.getD j [],(ops[x.1]?).bind (·.dst)=some x.2∧∃ e ∈ o.after,Region.binds .any e=true∧e.on=x.1:=fun x hx=>by
   have:=List.all_eq_true.1 h1 x hx
   simp only [Bool.and_eq_true,beq_iff_eq] at this
   obtain ⟨e,he,hb⟩:=Array.any_eq_true'.1 this.2
   simp only [Bool.and_eq_true,beq_iff_eq] at hb
   exact ⟨this.1,e,he,hb.1,hb.2⟩
  refine ⟨fun x hx=>(h1' x hx).1,fun i hi=>?_,fun e he hb=>?_,fun t ht i x hx hd=>?_,by simpa using h4,fun i hi x hx e=>?_⟩
  ·obtain ⟨x,hx,rfl⟩:=List.mem_map.1 hi
   exact (h1' x hx).2
  ·have:=Array.all_eq_true_iff_forall_mem.1 h2 e he
   simpa [hb] using this
  ·have:=List.all_eq_true.1 (List.all_eq_true.1 h3 t ht) i (List.mem_range.2 (Array.getElem?_eq_some_iff.1 hx).1)
   simpa [hx,hd] using this
  ·have:=List.all_eq_true.1 (List.all_eq_true.1 h5 i hi) x hx
   simpa [e] using this
 have hC:∀ j i,consOf cons j=some i→i ∈ nums use j∧j<ops.size:=fun j i h=>by
  have:=List.all_eq_true.1 hcons _ (consOf_mem h)
  simpa using this
 intro fuel
 have all_of:∀ listed:Array Bool,listed.size=ops.size→Region.ready .any ops listed=[]→∀ k,k<ops.size→listed.getD k false=true:=by
  intro listed hsz hr k
  induction k using Nat.strongRecOn with
  | _ k ih =>
    intro hk
    by_cases hl:listed.getD k false=true
    ·exact hl
    ·exfalso
     have:k ∈ Region.ready .any ops listed:=mem_ready.2 ⟨by
      simp only [Array.getD_eq_getD_getElem?] at hl ⊢
      rw [Array.getElem?_eq_getElem (by omega)] at hl ⊢
      simpa using hl,_,Array.getElem?_eq_getElem hk,fun e he hb=>ih e.on ((hO k _ (Array.getElem?_eq_getElem hk)).2.2.1 e he hb) (Nat.lt_trans ((hO k _ (Array.getElem?_eq_getElem hk)).2.2.1 e he hb) hk)⟩
     rw [hr] at this
     cases this
 have fin:∀ (listed:Array Bool) (V:Nat→Value) (a:Act) (w:World),listed.size=ops.size→Region.ready .any ops listed=[] →
     Inv F (consOf cons) E W0 (fun i=>listed.getD i false=true) V w→Frm ops (fun i=>listed.getD i false=true) V a0 a→Q .normal a w:=by
  intro listed V a w hsz hr hi hf
  have hall:=all_of listed hsz hr
  have heq:∀ i,(listed.getD i false=true)↔i<ops.size:=fun i=>⟨fun h=>by
   rcases Nat.lt_or_ge i ops.size with h1|h1
   ·exact h1
   ·simp [Array.getD_eq_getD_getElem?,Array.getElem?_eq_none (show listed.size≤i by omega)] at h,hall i⟩
  refine hend V w a ?_ (hf.congr heq fun _ _=>rfl)
  have:(fun i=>listed.getD i false=true)=(fun i=>i<ops.size):=funext fun i=>propext (heq i)
  rwa [this] at hi
 induction fuel with
 | zero =>
   intro listed V a w hsz hfu hcl hi hf
   have hr:Region.ready .any ops listed=[]:=by
    apply List.eq_nil_iff_forall_not_mem.2
    intro j hj
    obtain ⟨h1,o,ho,_⟩:=mem_ready.1 hj
    have h2:=left_none listed.toList (by omega) j (by simp;rw [hsz];exact (Array.getElem?_eq_some_iff.1 ho).1)
    simp only [Array.getElem?_toList] at h2
    simp [Array.getD_eq_getD_getElem?,h2] at h1
   exact ⟨hr,fin listed V a w hsz hr hi hf⟩
 | succ fuel ih =>
   intro listed V a w hsz hfu hcl hi hf
   refine ⟨fun hr=>fin listed V a w hsz hr hi hf,fun j hj=>?_⟩
   obtain ⟨hjf,o,ho,haft⟩:=mem_ready.1 hj
   have hjlt:j<ops.size:=(Array.getElem?_eq_some_iff.1 ho).1
   have hjs:listed[j]?=some false:=by
    simp only [Array.getD_eq_getD_getElem?,Array.getElem?_eq_getElem (show j<listed.size by omega),Option.getD_some] at hjf ⊢
    rw [hjf]
   have hjn:¬ listed.getD j false=true:=by simp [Array.getD_eq_getD_getElem?,hjs]
   obtain ⟨h0,h1,h2,h3,h4,h5⟩:=hO j o ho
   have hUL:∀ i,i ∈ nums use j→listed.getD i false=true:=fun i hi=>by
    obtain ⟨e,he,hb,rfl⟩:=h1 i hi
    exact haft e he hb
   have hlive:∀ i,i ∈ nums use j→Live (consOf cons) (fun i=>listed.getD i false=true) i:=fun i hiu=>⟨hUL i hiu,fun k hk hck=>by
    have:=h5 i hiu _ (consOf_mem hck) rfl
    simp only at this
    subst this
    exact hjn hk⟩
   have hH:∀ l:List Nat,(∀ i,i ∈ l→i ∈ nums use j)→Holds F V w l:=by
    intro l
    induction l with
    | nil=>intro _;trivial
    | cons x l ih=>intro hl;exact ⟨hi.holds x (hlive x (hl x (by simp))),ih fun i hi=>hl i (by simp [hi])⟩
   have hd:=hstep j o ho V w hi.later (hH _ fun _ h=>h)
   have hb:=Frm.putUse (V:=V) (a0:=a0) hdis (use.getD j []) h0 h4
   refine Does.at_ ho (Region.noSelect_spec hsel j o · · ho) (hf.size.trans hb.size.symm) (fun t ht=>hf.at_ hb t (fun i x hx hd=>?_)) hd (fun v w' hg=>?_)
   ·exact ⟨fun _=>h3 t ht i x hx hd,fun h=>hUL i h⟩
   ·refine ih (listed.setIfInBounds j true) (fun k=>if k=j then v else V k) (a.put o.dst v) w' (by simpa using hsz) ?_ ?_ ?_ ?_
    ·have:=left_set listed.toList j (by simpa using hjs)
     rw [Array.toList_setIfInBounds]
     omega
    ·intro k ok hok hk e he hb2
     rw [getD_set] at hk ⊢
     rcases hk with ⟨rfl,_⟩|hk
     ·obtain rfl:ok=o:=by rw [ho] at hok;exact (Option.some.inj hok).symm
      exact .inr (haft e he hb2)
     ·exact .inr (hcl k ok hok hk e he hb2)
    ·have hus:∀ k,listed.getD k false=true→∀ i ∈ nums use k,listed.getD i false=true:=fun k hk i hik=>by
      have hkl:k<ops.size:=by
       rcases Nat.lt_or_ge k ops.size with h1|h1
       ·exact h1
       ·simp [Array.getD_eq_getD_getElem?,Array.getElem?_eq_none (show listed.size≤k by omega)] at hk
      obtain ⟨e,he,hb3,hej⟩:=(hO k _ (Array.getElem?_eq_getElem hkl)).2.1 i hik
      have:=hcl k _ (Array.getElem?_eq_getElem hkl) hk e he hb3
      rw [hej] at this
      exact this
     have h6:=hi.step (v:=v) hjn (fun i hci=>hlive i (hC j i hci).1) (fun k hk hck=>by
      have hkl:k<ops.size:=(hC k j hck).2
      obtain ⟨e,he,hb3,hej⟩:=(hO k _ (Array.getElem?_eq_getElem hkl)).2.1 j (hC k j hck).1
      have:=hcl k _ (Array.getElem?_eq_getElem hkl) hk e he hb3
      rw [hej] at this
      exact hjn this) (fun hcj=>by have:=hUL j (hC j j hcj).1;exact hjn this) (fun k hk V' hV=>hE k V V' _ (fun i hik=>hV i (hus k hk i hik))) (fun V' hV=>hE j V V' _ (fun i hij=>hV i (hUL i hij))) hg
     have e:(fun i=>(listed.setIfInBounds j true).getD i false=true)=(fun k=>k=j∨listed.getD k false=true):=funext fun k=>propext (by
      rw [getD_set];constructor
      ·rintro (⟨h,_⟩|h)
       ·exact .inl h
       ·exact .inr h
      ·rintro (h|h)
       ·exact .inl ⟨h,by omega⟩
       ·exact .inr h)
     rw [e];exact h6
    ·refine (hf.step hdis j o ho hjn v).congr (fun k=>?_) (fun _ _=>rfl)
     rw [getD_set];constructor
     ·rintro (h|h)
      ·exact .inl ⟨h,by omega⟩
      ·exact .inr h
     ·rintro (⟨h,_⟩|h)
      ·exact .inl h
      ·exact .inr h
def Does1 (P:Program) (o:Oper) (V:Nat→Value) (b:Act) (w:World) (R:Value→World→Prop):Prop :=
 match o.guard with
 | none=>∀ K:Act→World→Prop,(∀ v w',R v w'→K (b.put o.dst v) w')→o.wp P b w K NoExit
 | some (i,want)=>(V i=.bool want∧∀ K:Act→World→Prop,(∀ v w',R v w'→K (b.put o.dst v) w')→o.wp P b w K NoExit)∨(V i=.bool (!want)∧R undef w)
def alias (al:List (Nat × Nat × (Value→Value))) (j:Nat) (V:Nat→Value) (v:Value):Prop:=∀ i f,(j,i,f) ∈ al→v=f (V i)
theorem alias_dep {al:List (Nat × Nat × (Value→Value))} {use:List (List (Nat × Nat))} (h:(al.all fun x=>(nums use x.1).contains x.2.1)=true) (j:Nat) (V V':Nat→Value) (v:Value) (he:∀ i ∈ nums use j,V i=V' i) (ha:alias al j V v):alias al j V' v:=fun i f hm=>by
 have:=List.all_eq_true.1 h _ hm
 rw [← he i (by simpa using this)]
 exact ha i f hm
theorem alias_none {al:List (Nat × Nat × (Value→Value))} {j:Nat} (h:(al.all fun x=>x.1 != j)=true) (V:Nat→Value) (v:Value):alias al j V v:=fun i f hm=>by
 have:=List.all_eq_true.1 h _ hm
 simp at this
theorem wp_region_facts {id:Nat} {a0:Act} {w0:World} (hm:P.follows .mixedOrders=true) (F:Nat→Fact) (al:List (Nat × Nat × (Value→Value))) (use:List (List (Nat × Nat))) (cons:List (Nat × Nat)) (hchk:check ops use cons=true) (hal:(al.all fun x=>(nums use x.1).contains x.2.1)=true)
    (hsz:(ops.all fun o=>(o.dst.map fun d=>decide (d<a0.tmps.size)).getD true)=true)
    (hstep:∀ a1,a1=a0→Steps (fun j o=>∀ V w,Below w0.heap.size w0 w→Holds F V w (nums use j)→Does1 P o V (putUse V (use.getD j []) a1) w (Good F (consOf cons) (alias al) w0.drew V j w)) 0 ops.toList)
    (hend:∀ V w,Inv F (consOf cons) (alias al) w0.drew (fun i=>i<ops.size) V w→Q .normal (putList ops.toList 0 V a0) w):(Code.region id ops true).wp P Q a0 w0:=by
 refine wp_region_any hm ?_
 have hdis:distinct ops=true:=by simp only [check,Bool.and_eq_true] at hchk;exact hchk.1.1.1
 refine run_all use cons hchk F (alias al) (alias_dep hal) a0 w0.drew (fun j o ho=>?_) (fun V w a hi hf=>?_) _ _ (fun _=>undef) _ _ (by simp) ?_ ?_ ?_ ?_
 ·intro V w hl hh
  have h1:=(hstep a0 rfl).get j o (by simpa using ho) V w ⟨hl.os,hl.tape,hl.output,hl.size,hl.block⟩ (by simpa using hh)
  simp only [Nat.zero_add] at h1
  unfold Does1 at h1
  unfold Does
  cases hgd:o.guard with
  | none =>
    rw [hgd] at h1
    exact .inr ⟨by unfold Region.wanted;rw [hgd],h1⟩
  | some gw =>
    obtain ⟨g,want⟩:=gw
    rw [hgd] at h1
    simp only at h1
    have hy:∀ x,V g=.bool x→yielded ops (putUse V (use.getD j []) a0).tmps g=some x:=by
     intro x hx
     simp only [check,Bool.and_eq_true] at hchk
     have h:=List.all_eq_true.1 hchk.1.2 j (List.mem_range.2 (Array.getElem?_eq_some_iff.1 ho).1)
     simp only [ho,Bool.and_eq_true,hgd] at h
     obtain ⟨⟨⟨⟨⟨h1,_⟩,_⟩,h4⟩,_⟩,h6⟩:=h
     have h0:∀ x ∈ use.getD j [],(ops[x.1]?).bind (·.dst)=some x.2:=fun x hx=>by
      have:=List.all_eq_true.1 h1 x hx
      simp only [Bool.and_eq_true,beq_iff_eq] at this
      exact this.1
     have hb:=Frm.putUse (V:=V) (a0:=a0) hdis (use.getD j []) h0 (by simpa [nums] using h4)
     have h6:g ∈ nums use j:=by simpa using h6
     obtain ⟨y,hy,rfl⟩:=List.mem_map.1 h6
     obtain ⟨og,hog,hdg⟩:=Option.bind_eq_some_iff.1 (h0 y hy)
     have hlt:=Array.all_eq_true_iff_forall_mem.1 hsz og (Array.mem_of_getElem? hog)
     simp only [hdg,Option.map_some,Option.getD_some,decide_eq_true_eq] at hlt
     have h7:=hb.put y.1 og y.2 hog hdg h6
     rw [if_pos hlt,hx] at h7
     unfold yielded
     rw [h0 y hy]
     simp only [Option.bind_some]
     rw [h7]
    rcases h1 with ⟨h1,h2⟩|⟨h1,h2⟩
    ·exact .inr ⟨by unfold Region.wanted;rw [hgd];simp only [];rw [hy _ h1];exact beq_self_eq_true _,h2⟩
    ·refine .inl ⟨?_,h2⟩
     unfold Region.wanted;rw [hgd];simp only [];rw [hy _ h1]
     cases want <;> rfl
 ·have h1:=Frm.putList (V:=V) (a0:=a0) hdis ops.toList 0 a0 (fun k _=>by simp) ((Frm.refl ops V a0).congr (fun i=>by simp) fun _ _=>rfl)
  have h2:a=putList ops.toList 0 V a0:=hf.uniq (h1.congr (fun i=>by simp) fun _ _=>rfl)
  rw [h2];exact hend V w hi
 ·exact Nat.le_trans (List.length_filter_le _ _) (by simp)
 ·intro k o _ hk
  simp [Array.getD_eq_getD_getElem?,Array.getElem?_replicate] at hk
  split at hk <;> simp at hk
 ·have no:∀ i,¬ ((Array.replicate ops.size false).getD i false=true):=fun i h=>by
   simp [Array.getD_eq_getD_getElem?,Array.getElem?_replicate] at h
   split at h <;> simp at h
  exact ⟨Below.refl _ _,fun i h=>absurd h.1 (no i),fun i b h=>absurd h.1 (no i),fun i j b h=>absurd h.1 (no i),fun j h=>absurd h (no j)⟩
 ·refine (Frm.refl ops _ a0).congr (fun i=>⟨fun h=>h.elim,fun h=>?_⟩) fun _ _=>rfl
  simp [Array.getD_eq_getD_getElem?,Array.getElem?_replicate] at h
  split at h <;> simp at h
theorem Inv.get {F:Nat→Fact} {cons:List (Nat × Nat)} {E:Nat→(Nat→Value)→Value→Prop} {W0:World} {V:Nat→Value} {w:World} {n:Nat} (h:Inv F (consOf cons) E W0 (fun i=>i<n) V w) (i:Nat) (hi:i<n) (hc:cons.all (fun x=>x.2 != i)=true):(F i).holds (V i) w :=
 h.holds i ⟨hi,fun k _ hk=>by have:=List.all_eq_true.1 hc _ (consOf_mem hk);simp at this⟩
end
def val (x:Value):Fact:=⟨fun v _=>v=x,fun _=>none,fun _ _ _ _ h _ _=>h⟩
def any:Fact:=⟨fun _ _=>True,fun _=>none,fun _ _ _ _ h _ _=>h⟩
def row (e:TypeId) (n:Nat) (xs:List Value):Fact:=⟨fun v w=>w.ownsRow 0 e 1 v n xs,Value.ownBlock,fun v w w' r h hg hb=>by
 refine ⟨h.1,?_⟩
 rcases h.2 with h2|⟨g,cap,cur,h3,h4,h5,h6⟩
 ·exact .inl h2
 ·subst h3
  have:=hb g rfl
  exact .inr ⟨g,cap,cur,rfl,h4,(hg.block g this.1 (fun e=>this.2 e.symm)).trans h5,h6⟩⟩
/-! ### The steps, a kind each -/
section
variable {P:Program} {F:Nat→Fact} {cons:List (Nat × Nat)} {E:Nat→(Nat→Value)→Value→Prop} {W0:World} {V:Nat→Value} {j:Nat} {o:Oper} {b:Act} {w:World}
def Open (o:Oper) (V:Nat→Value):Prop:=match o.guard with|none=>True|some (i,want)=>V i=.bool want
theorem Does1.of {R:Value→World→Prop} (hg:Open o V) (h:∀ K:Act→World→Prop,(∀ v w',R v w'→K (b.put o.dst v) w')→o.wp P b w K NoExit):Does1 P o V b w R:=by
 unfold Open at hg
 unfold Does1
 split <;> rename_i h0
 ·exact h
 ·rw [h0] at hg;exact .inl ⟨hg,h⟩
theorem good_quiet {v:Value} (hE:E j V v) (hc:consOf cons j=none) (hf:(F j).holds v w) (ho:(F j).own v=none):Good F (consOf cons) E W0 V j w v w:=by
 have:src F (consOf cons) V j=none:=by unfold src;rw [hc];rfl
 exact ⟨by rw [this];exact ⟨rfl,rfl,rfl,Nat.le_refl _,fun _ _ _=>rfl⟩,hf,(fun b hb=>by rw [ho] at hb;cases hb),hE⟩
theorem step_val (x:Value) (hE:E j V x) (hc:consOf cons j=none) (hg:Open o V) (h:(execOp b.eval o).run P w=.ok (.value x) w) (hf:(F j).holds x w) (ho:(F j).own x=none):Does1 P o V b w (Good F (consOf cons) E W0 V j w) :=
 .of hg fun K hK=>by unfold Oper.wp;rw [h];exact hK x w (good_quiet hE hc hf ho)
theorem step_not {i:Nat} {want:Bool} (hgd:o.guard=some (i,want)) (hV:V i=.bool (!want)) (hE:E j V undef) (hc:consOf cons j=none) (hf:(F j).holds undef w) (ho:(F j).own undef=none):Does1 P o V b w (Good F (consOf cons) E W0 V j w):=by
 unfold Does1
 rw [hgd]
 exact .inr ⟨hV,good_quiet hE hc hf ho⟩
theorem call_enter {f:FuncId} {fn:Func} (hf:P.funcs[f]?=some fn) (hb:fn.body.isNone=false) (hn:(fn.name=="runtime.NumGoroutine")=false) (args:Array Value) (w:World):(callFunc f args).run P w=.ok (.enter f args) w:=by
 have hn':¬ fn.name="runtime.NumGoroutine":=by simpa using hn
 have hb':¬ fn.body=none:=by intro e;rw [e] at hb;cases hb
 unfold callFunc
 simp [hf,hn',hb',go_sem]
theorem step_call {f:FuncId} {xs:Array Operand} {ts:Array TypeId} (args:Array Value) (hent:∀ args w,(callFunc f args).run P w=.ok (.enter f args) w) (hop:o.op=.call { callee:=.value (.func f),args:=xs,argTypes:=ts }) (hargs:xs.map b.eval=args) (hE:∀ v,E j V v) (hc:consOf cons j=none) (hg:Open o V)
    (h:Calls P f args w fun e w'=>∃ v,e=.returned v∧Below w.heap.size w w'∧(F j).holds v w'∧∀ k,(F j).own v=some k→w.heap.size≤k∧k<w'.heap.size):Does1 P o V b w (Good F (consOf cons) E W0 V j w) :=
 .of hg fun K hK=>by
  have he:(execOp b.eval o).run P w=.ok (.enter f args) w:=by
   subst hargs
   have:execOp b.eval o=callFunc f (#[]++xs.map b.eval++#[]):=by
    obtain ⟨dst,op,ty,pos,after,guard⟩:=o
    simp only at hop
    subst hop
    rfl
   rw [this,hent]
   simp
  unfold Oper.wp;rw [he]
  refine h.mono ?_
  rintro e w' ⟨v,rfl,hb,hf,ho⟩
  have:src F (consOf cons) V j=none:=by unfold src;rw [hc];rfl
  exact hK v w' ⟨by rw [this];exact ⟨hb.os,hb.tape,hb.output,hb.size,fun k hk _=>hb.block k hk⟩,hf,fun k hk=>⟨.inr (ho k hk).1,(ho k hk).2⟩,hE v⟩
end
end Go.Proofs.YtbnpgakmhhfjkaaGreatDoor.Rg
namespace Go.Proofs.YtbnpgakmhhfjkaaGreatDoor
open Go.RowKit
def bRow (l:List UInt8):Rg.Fact:=Rg.row 5 l.length (Lib.byteCells l)
theorem bRow_form {w:World} {v:Value} {l:List UInt8} (h:(bRow l).holds v w):∃ A c,v=.slice A l.length c∧l.length≤c∧Rd w A l:=by
 have h0:w.ownsRow 0 5 1 v l.length (Lib.byteCells l):=h
 rcases Nat.eq_zero_or_pos l.length with h1|h1
 ·rcases h0.2 with ⟨rfl,_⟩|⟨g,cap,cur,rfl,_,_,hn,_⟩
  ·exact ⟨none,0,by rw [h1],by omega,fun hp=>absurd hp (by omega)⟩
  ·exact ⟨_,cap,rfl,hn,fun hp=>absurd hp (by omega)⟩
 ·obtain ⟨g,c,e,hc,_,_,_,hr⟩:=rd_own h0 h1
  exact ⟨_,c,e,hc,hr⟩
section
variable {F:Nat→Rg.Fact} {cons:List (Nat × Nat)} {al:List (Nat × Nat × (Value→Value))} {W0:World} {V:Nat→Value} {j:Nat} {o:Oper} {b:Act} {w:World}
theorem step_num {f:FuncId} {xs:Array Operand} {ts:Array TypeId} (args:Array Value) (x:Value) (hent:∀ args w,(callFunc f args).run Tryz.prog w=.ok (.enter f args) w) (hop:o.op=.call { callee:=.value (.func f),args:=xs,argTypes:=ts }) (hargs:xs.map b.eval=args) (hF:F j=Rg.val x) (ha:(al.all fun x=>x.1 != j)=true) (hc:Rg.consOf cons j=none) (hg:Rg.Open o V)
    (h:Calls Tryz.prog f args w fun e w'=>e=.returned x∧Below w.heap.size w w'):Rg.Does1 Tryz.prog o V b w (Rg.Good F (Rg.consOf cons) (Rg.alias al) W0 V j w):=by
 refine Rg.step_call args hent hop hargs (fun v=>Rg.alias_none ha V v) hc hg (h.mono ?_)
 rintro e w' ⟨rfl,h2⟩
 exact ⟨x,rfl,h2,by rw [hF];rfl,fun k hk=>by rw [hF] at hk;cases hk⟩
theorem step_mv (x:Value) (h:(execOp b.eval o).run Tryz.prog w=.ok (.value x) w) (hF:F j=Rg.val x) (ha:(al.all fun x=>x.1 != j)=true) (hc:Rg.consOf cons j=none) (hg:Rg.Open o V):Rg.Does1 Tryz.prog o V b w (Rg.Good F (Rg.consOf cons) (Rg.alias al) W0 V j w) :=
 Rg.step_val x (Rg.alias_none ha V _) hc hg h (by rw [hF];rfl) (by rw [hF];rfl)
end
end Go.Proofs.YtbnpgakmhhfjkaaGreatDoor
namespace Go.Proofs.YtbnpgakmhhfjkaaGreatDoor
open Go.RowKit
def strOf (l:List UInt8):ByteArray:=⟨l.toArray⟩
theorem strOf_size (l:List UInt8):(strOf l).size=l.length:=by simp [strOf,ByteArray.size]
theorem str_any (w:World) (A:Option Addr) (l:List UInt8) (c:Nat) (h:Rd w A l):(convert 23 9 (.slice A l.length c)).run Tryz.prog w=.ok (.string (strOf l)) w:=by
 cases A with
 | none =>
   have hl:l=[]:=by
    rcases Nat.eq_zero_or_pos l.length with h1|h1
    ·exact List.eq_nil_of_length_eq_zero h1
    ·obtain ⟨b,off,h2,_⟩:=h h1
     cases h2
   subst hl
   exact run_convert_bytes_nil w 23 5 Tryz.underlying23 Tryz.underlying5 0 c 9 Tryz.underlying9
 | some ad =>
   have hl:(loadCells ad l.length).run Tryz.prog w=.ok ((l.map fun b=>((b.toNat:Nat):Int)).map (Value.int .u8)).toArray w:=by
    have:=run_loadCells_list (P:=Tryz.prog) w ad ((l.map fun b=>((b.toNat:Nat):Int)).map (Value.int .u8)) (fun j v hj=>by
     rw [List.map_map] at hj
     simp only [List.getElem?_map,Option.map_eq_some_iff] at hj
     obtain ⟨x,hx,rfl⟩:=hj
     obtain ⟨b,off,h1,_,h2⟩:=h (by have:=(List.getElem?_eq_some_iff.1 hx).1;omega)
     obtain rfl:ad=⟨b,off,none⟩:=by injection h1
     rw [add_plain]
     exact h2 j x hx)
    simpa using this
   rw [run_convert_bytes_string w 23 9 5 _ l.length c Tryz.underlying23 Tryz.underlying5 Tryz.underlying9,run_bytesToString w _ l.length c _ hl,foldl_push_bytes]
   congr 3
   simp [ByteArray.empty,ByteArray.emptyWithCapacity]
   have e:((fun n:Int=>UInt8.ofNat n.toNat) ∘ fun b:UInt8=>((b.toNat:Nat):Int))=id:=funext fun b=>by simp
   rw [e,List.map_id]
   rfl
end Go.Proofs.YtbnpgakmhhfjkaaGreatDoor
namespace Go.Proofs.YtbnpgakmhhfjkaaGreatDoor
open Go.RowKit
section
variable {F:Nat→Rg.Fact} {cons:List (Nat × Nat)} {al:List (Nat × Nat × (Value→Value))} {W0:World} {V:Nat→Value} {j:Nat} {o:Oper} {b:Act} {w:World}
end
end Go.Proofs.YtbnpgakmhhfjkaaGreatDoor
