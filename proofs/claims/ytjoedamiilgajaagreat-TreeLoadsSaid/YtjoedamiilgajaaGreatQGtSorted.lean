/-
  OWN WORK. The program's tree: slices.SortFunc over a row of rows, in their order.
-/
import Derived.Test.YtjoedamiilgajaaGreatQGtSort
namespace Go.Proofs.YtjoedamiilgajaaGreat
open Go.RowKit Rc
open Tr (Nm En T)
namespace Gt
section
variable {α:Type} [Inhabited α] {enc:α→Value} {w:World} {blk off m:Nat} {dk:Array α} {os:Array Obj}
theorem sw_size:w.heap.size≤(sortWorld enc w blk off m dk os).heap.size:=by
 simp [sortWorld,Go.Sort.grow,Go.Sort.putRow,Go.Sort.mapBlock,Go.Sort.ahead]
theorem sw_other {b:Nat} (hne:b≠blk) (hlt:b<w.heap.size):(sortWorld enc w blk off m dk os).heap[b]?=w.heap[b]?:=by
 show ((w.heap.modify blk (Go.Sort.onCells (Go.Sort.putCells enc off dk)))++os)[b]?=_
 rw [Array.getElem?_append,if_pos (by simpa using hlt),Array.getElem?_modify,if_neg (fun e=>hne e.symm)]
theorem sw_at {cur:Array Value} {e:TypeId} {fr:Nat × Nat} (h:w.heap[blk]?=some (.cells cur e fr)):(sortWorld enc w blk off m dk os).heap[blk]?=some (.cells (Go.Sort.putCells enc off dk cur) e fr):=by
 have hlt:blk<w.heap.size:=(Array.getElem?_eq_some_iff.1 h).1
 show ((w.heap.modify blk (Go.Sort.onCells (Go.Sort.putCells enc off dk)))++os)[blk]?=_
 rw [Array.getElem?_append,if_pos (by simpa using hlt),Array.getElem?_modify,if_pos rfl,h]
 rfl
end
set_option maxHeartbeats 1000000 in
set_option maxRecDepth 100000 in
theorem sort_any {w:World} {x:Value} {L:List (List Bs)} {S:Nat→Prop} (h:Ms.LOwn 0 Ms.noOld x L S w) (hlt:∀ b,S b→b<w.heap.size) (hj:∀ y ∈ L,(Dr.joined y).length≤140737488355328) (h0:0<L.length) (h9:L.length≤1000000000) :
    Calls Tryz.prog 92 #[x,.func (.func 93) #[] #[]] w fun e w'=>e=.returned (.tuple #[])∧∃ L':List (List Bs),L'.Perm L∧L'.Pairwise (fun p q=>Tr.less (Pa.join q) (Pa.join p)=false)∧Ms.LOwn 0 Ms.noOld x L' S w'∧Mod w w' (fun b=>x.ownBlock=some b):=by
 obtain ⟨xs,h1,h2,h3⟩:=h
 obtain ⟨g,cap,cur,rfl,_,hg,hn,hm,hcs,hx⟩:∃ g cap cur,x=.slice (some ⟨g,0,none⟩) L.length cap∧0≤g∧w.heap[g]?=some (.cells cur 26 (0,0))∧L.length≤cap∧cap≤maxLen∧cur.size=cap*1∧cur.toList.take (L.length*1)=xs:=by
  rcases h1.2 with ⟨_,hz⟩|hr
  ·omega
  ·exact hr
 have hgl:g<w.heap.size:=(Array.getElem?_eq_some_iff.1 hg).1
 have hxl:xs.length=L.length:=by simpa using h1.1
 have key:∀ i:Fin L.length,∃ y:Elt w g S,y.1.2.1=L[i]∧xs[i.1]?=some (encE y):=fun i=>by
  obtain ⟨A,c,q1,q2,q3⟩:=h3 i.1 L[i] (List.getElem?_eq_getElem i.2)
  rcases q3 with q3|q3
  ·exact ⟨⟨(A,L[i],c),q2,q3.1,(fun b hb=>⟨⟨fun e=>(q3.2 b hb).2 (by rw [e];rfl),hlt b (q3.2 b hb).1⟩,(q3.2 b hb).1⟩),hj _ (List.getElem_mem i.2)⟩,rfl,q1⟩
  ·exact q3.elim
 obtain ⟨f,hf⟩:=Classical.axiomOfChoice key
 obtain ⟨d,hd⟩:∃ d,d=Array.ofFn f:=⟨_,rfl⟩
 have hds:d.size=L.length:=by rw [hd,Array.size_ofFn]
 have hdj:∀ j (hl:j<L.length),d[j]! = f ⟨j,hl⟩:=fun j hl=>by
  rw [getElem!_pos d j (by omega)]
  simp [hd]
 have hdL:d.toList.map (fun y=>y.1.2.1)=L:=by
  apply List.ext_getElem?
  intro j
  rw [List.getElem?_map,Array.getElem?_toList]
  by_cases hl:j<L.length
  ·rw [List.getElem?_eq_getElem hl,Array.getElem?_eq_getElem (by omega)]
   have h5:=hdj j hl
   rw [getElem!_pos d j (by omega)] at h5
   rw [h5]
   exact congrArg some (hf ⟨j,hl⟩).1
  ·rw [List.getElem?_eq_none (by omega),Array.getElem?_eq_none (by omega)];rfl
 have hH:Go.Sort.Holds encE w g 0 d:=fun j hjl=>by
  have hl:j<L.length:=by omega
  refine ⟨?_,Lib.frozen_of_heap hg _⟩
  rw [Nat.zero_add,cell_of_row w g j cur _ _ hg,hdj j hl,← (hf ⟨j,hl⟩).2,← hx,List.getElem?_take_of_lt (by omega),Array.getElem?_toList]
 have hcmp:CmpLays1 Tryz.prog 93 #[] encE cfE g 0 d.size w:=fun m os dk hs y z=>by
  have hrd:∀ y:Elt w g S,RdS (sortWorld encE w g 0 m dk os) y.1.1 y.1.2.1:=fun y=>Ms.RdS.keep y.2.2.1 (fun p hp hA=>World.cell?_of_block (sw_other (y.2.2.2.1 _ hA).1.1 hp)) sw_size
  refine (names2_any (sortWorld encE w g 0 m dk os) y.1.1 z.1.1 y.1.2.1 z.1.2.1 y.1.2.2 z.1.2.2 (hrd y) (hrd z) y.2.2.2.2 z.2.2.2.2).mono ?_
  rintro e w' ⟨rfl,hb,hdr⟩
  exact ⟨rfl,grow_of hb hdr⟩
 have hent:∀ (args:Array Value) (w:World),(callFunc 93 args).run Tryz.prog w=.ok (.enter 93 args) w:=enters_of Tryz.func93 (by kernel_rfl) rfl
 have hcall:=Tryz.slices_SortFunc (encE (w:=w) (blk:=g) (S:=S)) (fun _=>rfl) cfE swo 93 #[] g 0 cap d w hent hcmp hH hgl (by omega)
 rw [hds] at hcall
 refine hcall.mono ?_
 rintro e w' ⟨rfl,d',n,os,⟨p1,_,p3⟩,hs,rfl⟩
 rw [hds] at p1
 have hp:d'.toList.Perm d.toList:=by
  have e1:d'.extract 0 L.length=d':=by rw [← p1];simp
  have e2:d.extract 0 L.length=d:=by rw [← hds];simp
  rw [e1,e2] at p3
  exact p3
 refine ⟨rfl,d'.toList.map (fun y=>y.1.2.1),by rw [← hdL];exact hp.map _,?_,?_,rfl,rfl,rfl,sw_size,fun b hb hne=>sw_other (fun e=>hne (by rw [e];rfl)) hb⟩
 ·rw [List.pairwise_iff_getElem]
  intro i j hi hj2 hij
  simp only [List.length_map,Array.length_toList] at hi hj2
  have h5:=hs i j (Nat.zero_le _) hij (by omega)
  rw [getElem!_pos d' i hi,getElem!_pos d' j hj2,lt_is] at h5
  rw [Tr.less_eq]
  simpa using h5
 ·refine ⟨d'.toList.map encE,⟨by simp,.inr ⟨g,cap,Go.Sort.putCells encE 0 d' cur,by simp [p1],Nat.zero_le _,sw_at hg,by simp [p1];exact hn,hm,by simp [Go.Sort.putCells];omega,?_⟩⟩,?_,fun j y hy=>?_⟩
  ·apply List.ext_getElem?
   intro k
   rw [List.getElem?_take]
   simp only [List.length_map,Array.length_toList,Nat.mul_one]
   by_cases hk:k<d'.size
   ·rw [if_pos hk,Array.getElem?_toList,List.getElem?_map,Array.getElem?_toList,Array.getElem?_eq_getElem hk]
    simp only [Go.Sort.putCells,Array.getElem?_mapIdx]
    rw [Array.getElem?_eq_getElem (show k<cur.size by omega)]
    simp [hk,getElem!_pos d' k hk]
   ·rw [if_neg hk,List.getElem?_eq_none (by simp;omega)]
  ·exact h2
  ·rw [List.getElem?_map,Array.getElem?_toList] at hy
   obtain ⟨y0,hy0,rfl⟩:=Option.map_eq_some_iff.1 hy
   refine ⟨y0.1.1,y0.1.2.2,by rw [List.getElem?_map,Array.getElem?_toList,hy0];rfl,y0.2.1,.inl ⟨Ms.RdS.keep y0.2.2.1 (fun p hp2 hA=>World.cell?_of_block (sw_other (y0.2.2.2.1 _ hA).1.1 hp2)) sw_size,fun b hb=>⟨(y0.2.2.2.1 b hb).2,fun e=>?_⟩⟩⟩
   have:=(y0.2.2.2.1 b hb).1.1
   simp [Value.ownBlock] at e
   omega
end Gt
end Go.Proofs.YtjoedamiilgajaaGreat
