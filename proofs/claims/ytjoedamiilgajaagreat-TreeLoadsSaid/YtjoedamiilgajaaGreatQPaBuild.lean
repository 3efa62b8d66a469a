/-
  OWN WORK. strings.Builder by its contracts at this program (copyCheck, WriteByte and WriteString walked after the shelf's manner; String by the shelf's contract).
-/
import Derived.Test.YtjoedamiilgajaaGreatQ02
import Derived.Test.YtjoedamiilgajaaGreatQ12
import Derived.Shelf.Strings.Builder1
set_option maxHeartbeats 1000000
namespace Go.Proofs.YtjoedamiilgajaaGreat
open Go.RowKit
theorem Tryz.sizeBuilder:(Tryz.prog.info? 166).map (·.size)=some 2:=by kernel_rfl
set_option maxRecDepth 100000 in
theorem copyCheck_used (b:Nat) (w:World) (h0:w.cell? ⟨b,0,none⟩=some (.pointer (some ⟨b,0,none⟩))) :
    Calls Tryz.prog 162 #[.pointer (some ⟨b,0,none⟩)] w fun e w'=>e=.returned (.tuple #[])∧w'=w:=by
 obtain ⟨j,hj,_⟩:=Option.map_eq_some_iff.1 Tryz.sizeBuilder
 go_enter Tryz.func162,Tryz.ntmps162
 go_wp2
 rw [Lib.run_neq_ptr_same w _ Tryz.underlying164 hj]
 go_wp2
 go_end0
 exact ⟨rfl,rfl⟩
set_option maxRecDepth 100000 in
theorem copyCheck_fresh (b:Nat) (w:World) (h0:w.cell? ⟨b,0,none⟩=some (.pointer none)) (hsh:w.shape? b=some (166,2)) (hfz:w.frozen? ⟨b,0,none⟩=false) :
    Calls Tryz.prog 162 #[.pointer (some ⟨b,0,none⟩)] w fun e w'=>e=.returned (.tuple #[])∧w'=w.setCell ⟨b,0,none⟩ (.pointer (some ⟨b,0,none⟩)):=by
 obtain ⟨j,hj,hjs⟩:=Option.map_eq_some_iff.1 Tryz.sizeBuilder
 go_enter Tryz.func162,Tryz.ntmps162
 go_wp2
 rw [Lib.run_to_unsafe w ⟨b,0,none⟩ Tryz.underlying164 Tryz.underlying204 hj (by rw [hjs];decide) hsh (Nat.zero_lt_succ 1)]
 simp only [Result.andThen]
 rw [Oper.upon_value]
 go_wp2
 rw [run_callFunc_extern Tryz.func176 (by kernel_rfl) (by kernel_rfl) (by kernel_rfl) (e:=Extern.AbiNoEscape.same) (by kernel_rfl)]
 rw [Lib.run_noEscape]
 simp only [Result.andThen]
 rw [Oper.upon_value]
 go_wp2
 rw [Lib.run_from_unsafe w ⟨b,0,none⟩ Tryz.underlying204 Tryz.underlying164 hj hsh (by kernel_rfl)]
 simp only [Result.andThen]
 rw [Oper.upon_value]
 go_wp2
 go_end0
 exact ⟨rfl,rfl⟩
theorem builder_put {B b:Nat} {v v':Value} {bs xs:List Value} {w1 wa w2:World} (hB:B≤b) (hbk:w1.heap[b]?=some (.cells #[.pointer (some ⟨b,0,none⟩),v] 166 (0,0))) (hown:w1.ownsRow B 5 1 v bs.length bs) (hne:v.ownBlock≠some b)
    (ha:Below w1.heap.size w1 wa) (hgrow:wa.grownBy w2 v.ownBlock) (hown':w2.ownsRow B 5 1 v' (bs.length+xs.length) (bs++xs)) :
    (∃ ao n c,v'=.slice ao n c)∧w2.cell? ⟨b,0,none⟩=some (.pointer (some ⟨b,0,none⟩))∧w2.cell? ⟨b,1,none⟩=some v∧w2.frozen? ⟨b,1,none⟩=false ∧
     Lib.BuilderAt 166 5 B b (.pointer (some ⟨b,0,none⟩)) (bs++xs) (w2.setCell ⟨b,1,none⟩ v')∧(B≤w1.heap.size→Below B w1 (w2.setCell ⟨b,1,none⟩ v')):=by
 have hlt:b<w1.heap.size:=by
  rcases Nat.lt_or_ge b w1.heap.size with h|h
  ·exact h
  ·rw [Array.getElem?_eq_none h] at hbk;cases hbk
 have hb2:w2.heap[b]?=some (.cells #[.pointer (some ⟨b,0,none⟩),v] 166 (0,0)):=by
  rw [hgrow.block b (Nat.lt_of_lt_of_le hlt ha.size) (fun e=>hne e.symm),ha.block b hlt]
  exact hbk
 refine ⟨?_,by rw [Lib.cell_of_heap hb2];rfl,by rw [Lib.cell_of_heap hb2];rfl,Lib.frozen_of_heap hb2 1,?_,fun hBs=>?_⟩
 ·rcases hown'.2 with ⟨hv,_⟩|⟨g,cap,cur,hv,_⟩
  ·exact ⟨_,_,_,hv⟩
  ·exact ⟨_,_,_,hv⟩
 ·exact Lib.BuilderAt.put (T:=166) (e:=5) hB hb2 (bs':=bs++xs) (by rw [List.length_append];exact hown') (by decide)
 ·exact ((ha.mono hBs).grown hgrow (by have:=ha.size;omega) (fun k hk=>(hown.lt k hk).1)).setCell (p:=⟨b,1,none⟩) hB _
end Go.Proofs.YtjoedamiilgajaaGreat
