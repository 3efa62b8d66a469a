/-
  OWN WORK. The program's tree: Names' closure as what is shown names.
-/
import Derived.Test.YtjoedamiilgajaaGreatQGtShow
namespace Go.Proofs.YtjoedamiilgajaaGreat
open Go.RowKit Rc
open Tr (Nm En T)
namespace Gt
open Tm (Eye Shows Shown EAt)
def mine (i:Int) (s:Shown):List (List Bs):=(s.filter fun q=>q.2==i).map (·.1)
theorem mine_snoc (i:Int) (s:Shown) (q:List Bs) (k:Int):mine i (s++[(q,k)])=mine i s++(if k=i then [q] else []):=by
 unfold mine
 rw [List.filter_append,List.map_append]
 congr 1
 by_cases h:k=i <;> simp [h]
theorem mine_length (i:Int) (s:Shown):(mine i s).length≤s.length:=by
 unfold mine;rw [List.length_map];exact List.length_filter_le _ _
structure NAt (idb lb:Nat) (i:Int) (L:List (List Bs)) (v:Value) (S' B:Nat→Prop) (w:World):Prop where
 id:Blk w idb 3 [.int .i64 i]
 box:Blk w lb 27 [v]
 row:Ms.LOwn 0 Ms.noOld v L S' w
 nlb:¬ S' lb
 nid:¬ S' idb
 lt:∀ b,S' b→b<w.heap.size
 set:B=fun b=>b=idb∨b=lb∨S' b
theorem NAt.keep {idb lb:Nat} {i:Int} {L:List (List Bs)} {v:Value} {S' B:Nat→Prop} {w w':World} (h:NAt idb lb i L v S' B w) (hs:w.heap.size≤w'.heap.size) (hb:∀ b,B b→w'.heap[b]?=w.heap[b]?):NAt idb lb i L v S' B w':=by
 have hset:=h.set
 subst hset
 exact ⟨(hb _ (.inl rfl)).trans h.id,(hb _ (.inr (.inl rfl))).trans h.box,h.row.keep hs fun b h1=>hb b (.inr (.inr h1)),h.nlb,h.nid,fun b h1=>Nat.lt_of_lt_of_le (h.lt b h1) hs,rfl⟩
def nEye (idb lb:Nat) (i:Int) (L0:List (List Bs)):Eye where
 At s B w:=∃ v S',NAt idb lb i (L0++mine i s) v S' B w
 keep:=by
  rintro s B w w' ⟨v,S',h⟩ hs hb
  exact ⟨v,S',h.keep hs hb⟩
 lt:=by
  rintro s B w ⟨v,S',h⟩ b hb
  rw [h.set] at hb
  rcases hb with rfl|rfl|hb
  ·exact h.id.lt
  ·exact h.box.lt
  ·exact h.lt b hb
theorem nShows (idb lb:Nat) (hne:idb≠lb) (i:Int) (L0:List (List Bs)) (lim:Nat) (hL0:L0.length+lim≤100000000):Shows (nEye idb lb i L0) 90 #[.pointer (some ⟨idb,0,none⟩),.pointer (some ⟨lb,0,none⟩)] lim where
 ent:=enters_of Tryz.func90 (by kernel_rfl) rfl
 call:=by
  rintro w seen B A q cap g e S1 ⟨v,S',h⟩ hlim hr hc hq hA hE _
  have hset:=h.set
  subst hset
  have hg:=hE.cells.1
  have hid:=h.id.cell 0
  by_cases hk:e.nd.id=i
  ·rw [hk] at hg
   have hln:(L0++mine i seen).length≤100000000:=by
    have:=mine_length i seen
    rw [List.length_append];omega
   refine (names1_yes w lb idb g i v _ S' A q cap hid h.box h.row h.lt h.nlb hln hr hc hq (fun b h0 hb=>⟨fun e2=>hA b h0 hb (.inr (.inl e2)),fun h2=>hA b h0 hb (.inr (.inr h2))⟩) hg).mono ?_
   rintro r w' ⟨rfl,x,S2,k1,k2,k3,k4,k5⟩
   have hmod:Mod w w' (fun b=>b=idb∨b=lb∨S' b):=k5.mono fun b _ h1=>h1.elim (fun h2=>.inr (.inl h2)) fun h2=>.inr (.inr h2)
   have hidb:idb<w.heap.size:=h.id.lt
   refine ⟨rfl,fun b=>b=idb∨b=lb∨S2 b,⟨x,S2,⟨(k5.block idb hidb (fun h1=>h1.elim hne h.nid)).trans h.id,k1,?_,k3,fun h1=>?_,fun b hb=>(k4 b hb).2,rfl⟩⟩,hmod,fun b hb=>?_⟩
   ·rw [mine_snoc,if_pos hk,← List.append_assoc]
    exact k2
   ·rcases (k4 idb h1).1 with h2|h2
    ·exact h.nid h2
    ·omega
   ·rcases hb with hb|hb|hb
    ·exact .inl (.inl hb)
    ·exact .inl (.inr (.inl hb))
    ·exact (k4 b hb).1.imp (fun h2=>.inr (.inr h2)) fun h2=>h2
  ·refine (names1_no w lb idb g i e.nd.id A q.length cap hid hg hk).mono ?_
   rintro r w' ⟨rfl,hb⟩
   refine ⟨rfl,_,⟨v,S',?_⟩,Mod.of_below hb _,fun b h1=>.inl h1⟩
   rw [mine_snoc,if_neg hk,List.append_nil]
   refine h.keep hb.size fun b hB=>hb.block b ?_
   rcases hB with rfl|rfl|hB
   ·exact h.id.lt
   ·exact h.box.lt
   ·exact h.lt b hB
end Gt
end Go.Proofs.YtjoedamiilgajaaGreat
