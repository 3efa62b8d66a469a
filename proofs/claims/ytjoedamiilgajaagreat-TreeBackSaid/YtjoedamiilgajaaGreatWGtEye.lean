/-
  OWN WORK. The program's tree: Names' closure as what is shown names.
-/
import Derived.Test.YtjoedamiilgajaaGreatWGtShow
namespace Go.Proofs.YtjoedamiilgajaaGreat
open Go.RowKit Rc
open Tr (Nm En T)
namespace Gt
open Tm (Eye Shows Shown EAt)
structure NAt (idb lb:Nat) (i:Int) (L:List (List Bs)) (v:Value) (S' B:Nat→Prop) (w:World):Prop where
 id:Blk w idb 3 [.int .i64 i]
 box:Blk w lb 27 [v]
 row:Ms.LOwn 0 Ms.noOld v L S' w
 nlb:¬ S' lb
 nid:¬ S' idb
 lt:∀ b,S' b→b<w.heap.size
 set:B=fun b=>b=idb∨b=lb∨S' b
theorem NAt.keep {idb lb:Nat} {i:Int} {L:List (List Bs)} {v:Value} {S' B:Nat→Prop} {w w':World} (h:NAt idb lb i L v S' B w) (hs:w.heap.size≤w'.heap.size) (hb:∀ b,B b→w'.heap[b]?=w.heap[b]?):NAt idb lb i L v S' B w':=by
 have hset:=h.set
 subst hset
 exact ⟨(hb _ (.inl rfl)).trans h.id,(hb _ (.inr (.inl rfl))).trans h.box,h.row.keep hs fun b h1=>hb b (.inr (.inr h1)),h.nlb,h.nid,fun b h1=>Nat.lt_of_lt_of_le (h.lt b h1) hs,rfl⟩
end Gt
end Go.Proofs.YtjoedamiilgajaaGreat
