/-
  OWN WORK. The names that a law's number stands for.
-/
import Derived.Test.YtjoedamiilgajaaGreatQ03
import Derived.Test.YtjoedamiilgajaaGreatQPtWithin
namespace Go.Proofs.YtjoedamiilgajaaGreat
open Go.RowKit Rc
namespace Tm
def layTxts:World→List (List Bs)→World
 | w,[]=>w
 | w,q :: L=>layTxts (w.alloc (.cells (txtCells q).toArray 9)) L
theorem lay_size:∀ (L:List (List Bs)) (w:World),(layTxts w L).heap.size=w.heap.size+L.length
 | [],w=>rfl
 | q :: L,w=>by
   rw [layTxts,lay_size L,World.size_alloc,List.length_cons]
   omega
theorem lay_below:∀ (L:List (List Bs)) (w:World),Below w.heap.size w (layTxts w L)
 | [],w=>Below.refl _ _
 | q :: L,w=>(bN w _).trans ((lay_below L _).mono (by rw [World.size_alloc];omega))
theorem lay_rd:∀ (L:List (List Bs)) (w:World) (j:Nat) (q:List Bs),L[j]?=some q→RdS (layTxts w L) (some ⟨w.heap.size+j,0,none⟩) q
 | p :: L,w,0,q,h=>by
   obtain rfl:p=q:=by simpa using h
   exact (rds_alloc w p 9 (0,0)).below ((lay_below L _))
 | p :: L,w,j+1,q,h=>by
   have:=lay_rd L (w.alloc (.cells (txtCells p).toArray 9)) j q (by simpa using h)
   rw [World.size_alloc] at this
   rw [layTxts,show w.heap.size+(j+1)=w.heap.size+1+j from by omega]
   exact this
def nmList:List (List Bs):=[[[97]],[[98]],[[99]],[[97],[97]],[[97],[98]],[[98],[97]],[[98],[98],[97]],[[99],[97]],[[98],[98]],[[65]],[[97],[]],[[46]]]
def nmWorld (w:World):World:=(layTxts w nmList).alloc (.cells #[.slice (some ⟨w.heap.size,0,none⟩) 1 1,.slice (some ⟨w.heap.size+1,0,none⟩) 1 1,.slice (some ⟨w.heap.size+2,0,none⟩) 1 1,.slice (some ⟨w.heap.size+3,0,none⟩) 2 2,.slice (some ⟨w.heap.size+4,0,none⟩) 2 2,.slice (some ⟨w.heap.size+5,0,none⟩) 2 2,.slice (some ⟨w.heap.size+6,0,none⟩) 3 3,.slice none 0 0,.slice (some ⟨w.heap.size+7,0,none⟩) 2 2,.slice (some ⟨w.heap.size+8,0,none⟩) 2 2,.slice (some ⟨w.heap.size+9,0,none⟩) 1 1,.slice (some ⟨w.heap.size+10,0,none⟩) 2 2,.slice (some ⟨w.heap.size+11,0,none⟩) 1 1] 26)
theorem nm_cells (w:World):∀ m,m<13→∃ (A:Option Addr) (q:List Bs) (cap:Nat),(nmWorld w).cell? ⟨w.heap.size+12,m,none⟩=some (.slice A q.length cap)∧q.length≤cap∧q.length≤3∧(∀ s ∈ q,s.length≤1)∧RdS (nmWorld w) A q∧∀ k,A.map (·.block)=some k→w.heap.size≤k:=by
 have hb:Blk (nmWorld w) (w.heap.size+12) 26 [.slice (some ⟨w.heap.size,0,none⟩) 1 1,.slice (some ⟨w.heap.size+1,0,none⟩) 1 1,.slice (some ⟨w.heap.size+2,0,none⟩) 1 1,.slice (some ⟨w.heap.size+3,0,none⟩) 2 2,.slice (some ⟨w.heap.size+4,0,none⟩) 2 2,.slice (some ⟨w.heap.size+5,0,none⟩) 2 2,.slice (some ⟨w.heap.size+6,0,none⟩) 3 3,.slice none 0 0,.slice (some ⟨w.heap.size+7,0,none⟩) 2 2,.slice (some ⟨w.heap.size+8,0,none⟩) 2 2,.slice (some ⟨w.heap.size+9,0,none⟩) 1 1,.slice (some ⟨w.heap.size+10,0,none⟩) 2 2,.slice (some ⟨w.heap.size+11,0,none⟩) 1 1]:=by
  have h:=Blk.new (layTxts w nmList) 26 [.slice (some ⟨w.heap.size,0,none⟩) 1 1,.slice (some ⟨w.heap.size+1,0,none⟩) 1 1,.slice (some ⟨w.heap.size+2,0,none⟩) 1 1,.slice (some ⟨w.heap.size+3,0,none⟩) 2 2,.slice (some ⟨w.heap.size+4,0,none⟩) 2 2,.slice (some ⟨w.heap.size+5,0,none⟩) 2 2,.slice (some ⟨w.heap.size+6,0,none⟩) 3 3,.slice none 0 0,.slice (some ⟨w.heap.size+7,0,none⟩) 2 2,.slice (some ⟨w.heap.size+8,0,none⟩) 2 2,.slice (some ⟨w.heap.size+9,0,none⟩) 1 1,.slice (some ⟨w.heap.size+10,0,none⟩) 2 2,.slice (some ⟨w.heap.size+11,0,none⟩) 1 1]
  rw [lay_size] at h
  exact h
 intro m hm
 exact match m,hm with
 | 0,_=>⟨(some ⟨w.heap.size+0,0,none⟩),[[97]],1,hb.cell 0,Nat.le_refl _,by decide,by decide,(lay_rd _ _ 0 _ rfl).below (bN _ _),fun k hk=>by simp at hk;omega⟩
 | 1,_=>⟨(some ⟨w.heap.size+1,0,none⟩),[[98]],1,hb.cell 1,Nat.le_refl _,by decide,by decide,(lay_rd _ _ 1 _ rfl).below (bN _ _),fun k hk=>by simp at hk;omega⟩
 | 2,_=>⟨(some ⟨w.heap.size+2,0,none⟩),[[99]],1,hb.cell 2,Nat.le_refl _,by decide,by decide,(lay_rd _ _ 2 _ rfl).below (bN _ _),fun k hk=>by simp at hk;omega⟩
 | 3,_=>⟨(some ⟨w.heap.size+3,0,none⟩),[[97],[97]],2,hb.cell 3,Nat.le_refl _,by decide,by decide,(lay_rd _ _ 3 _ rfl).below (bN _ _),fun k hk=>by simp at hk;omega⟩
 | 4,_=>⟨(some ⟨w.heap.size+4,0,none⟩),[[97],[98]],2,hb.cell 4,Nat.le_refl _,by decide,by decide,(lay_rd _ _ 4 _ rfl).below (bN _ _),fun k hk=>by simp at hk;omega⟩
 | 5,_=>⟨(some ⟨w.heap.size+5,0,none⟩),[[98],[97]],2,hb.cell 5,Nat.le_refl _,by decide,by decide,(lay_rd _ _ 5 _ rfl).below (bN _ _),fun k hk=>by simp at hk;omega⟩
 | 6,_=>⟨(some ⟨w.heap.size+6,0,none⟩),[[98],[98],[97]],3,hb.cell 6,Nat.le_refl _,by decide,by decide,(lay_rd _ _ 6 _ rfl).below (bN _ _),fun k hk=>by simp at hk;omega⟩
 | 7,_=>⟨none,[],0,hb.cell 7,Nat.le_refl _,by decide,by decide,RdS.nil _ _,fun k hk=>by simp at hk⟩
 | 8,_=>⟨(some ⟨w.heap.size+7,0,none⟩),[[99],[97]],2,hb.cell 8,Nat.le_refl _,by decide,by decide,(lay_rd _ _ 7 _ rfl).below (bN _ _),fun k hk=>by simp at hk;omega⟩
 | 9,_=>⟨(some ⟨w.heap.size+8,0,none⟩),[[98],[98]],2,hb.cell 9,Nat.le_refl _,by decide,by decide,(lay_rd _ _ 8 _ rfl).below (bN _ _),fun k hk=>by simp at hk;omega⟩
 | 10,_=>⟨(some ⟨w.heap.size+9,0,none⟩),[[65]],1,hb.cell 10,Nat.le_refl _,by decide,by decide,(lay_rd _ _ 9 _ rfl).below (bN _ _),fun k hk=>by simp at hk;omega⟩
 | 11,_=>⟨(some ⟨w.heap.size+10,0,none⟩),[[97],[]],2,hb.cell 11,Nat.le_refl _,by decide,by decide,(lay_rd _ _ 10 _ rfl).below (bN _ _),fun k hk=>by simp at hk;omega⟩
 | 12,_=>⟨(some ⟨w.heap.size+11,0,none⟩),[[46]],1,hb.cell 12,Nat.le_refl _,by decide,by decide,(lay_rd _ _ 11 _ rfl).below (bN _ _),fun k hk=>by simp at hk;omega⟩
 | m+13,h=>absurd h (by omega)
set_option maxHeartbeats 2000000 in
set_option maxRecDepth 100000 in
theorem names_any (w:World) (n:Int) (h0:-9223372036854775808≤n) (h1:n≤9223372036854775807) :
    Calls Tryz.prog 84 #[.int .i64 n] w fun e w'=>∃ (A:Option Addr) (q:List Bs) (cap:Nat),e=.returned (.slice A q.length cap)∧q.length≤cap∧q.length≤3∧(∀ s ∈ q,s.length≤1)∧RdS w' A q∧Below w.heap.size w w'∧∀ k,A.map (·.block)=some k→w.heap.size≤k:=by
 obtain ⟨wz,hwz⟩:∃ wz,wz=nmWorld w:=⟨_,rfl⟩
 have HBW:Hid (Below w.heap.size w wz):=by
  show Below _ _ _
  rw [hwz]
  exact (lay_below nmList w).trans ((bN (layTxts w nmList) _).mono (lay_below nmList w).size)
 have HC:=Lib.hid (nm_cells w)
 rw [← hwz] at HC
 go_enter Tryz.func84,Tryz.ntmps84
 go_upto_region 2 with (fail)
 have hw2:wz=((((((((((((w.alloc (.cells #[.string ⟨#[97]⟩] 9)).alloc (.cells #[.string ⟨#[98]⟩] 9)).alloc (.cells #[.string ⟨#[99]⟩] 9)).alloc (.cells #[.string ⟨#[97]⟩,.string ⟨#[97]⟩] 9)).alloc (.cells #[.string ⟨#[97]⟩,.string ⟨#[98]⟩] 9)).alloc (.cells #[.string ⟨#[98]⟩,.string ⟨#[97]⟩] 9)).alloc (.cells #[.string ⟨#[98]⟩,.string ⟨#[98]⟩,.string ⟨#[97]⟩] 9)).alloc (.cells #[.string ⟨#[99]⟩,.string ⟨#[97]⟩] 9)).alloc (.cells #[.string ⟨#[98]⟩,.string ⟨#[98]⟩] 9)).alloc (.cells #[.string ⟨#[65]⟩] 9)).alloc (.cells #[.string ⟨#[97]⟩,.string ⟨#[]⟩] 9)).alloc (.cells #[.string ⟨#[46]⟩] 9)).alloc (.cells #[.slice (some ⟨w.heap.size,0,none⟩) 1 1,.slice (some ⟨w.heap.size+1,0,none⟩) 1 1,.slice (some ⟨w.heap.size+2,0,none⟩) 1 1,.slice (some ⟨w.heap.size+3,0,none⟩) 2 2,.slice (some ⟨w.heap.size+4,0,none⟩) 2 2,.slice (some ⟨w.heap.size+5,0,none⟩) 2 2,.slice (some ⟨w.heap.size+6,0,none⟩) 3 3,.slice none 0 0,.slice (some ⟨w.heap.size+7,0,none⟩) 2 2,.slice (some ⟨w.heap.size+8,0,none⟩) 2 2,.slice (some ⟨w.heap.size+9,0,none⟩) 1 1,.slice (some ⟨w.heap.size+10,0,none⟩) 2 2,.slice (some ⟨w.heap.size+11,0,none⟩) 1 1] 26):=hwz
 rw [← hw2]
 clear hw2 hwz
 go_wp2_with fail
 refine (Wi.within_nat n 0 1048576 0 1048576 wz rfl rfl (by omega) (by omega) h0 h1).mono ?_
 rintro e _ ⟨k,_,hk,rfl,rfl⟩
 obtain ⟨m,hm⟩:∃ m,m=k % 13:=⟨_,rfl⟩
 have em:Int.tmod (k:Int) 13=(m:Int):=by rw [hm];rfl
 have hm13:m<13:=by omega
 obtain ⟨A,q,cap,c0,hq1,hq2,hq3,hq4,hq5⟩:=HC.out m hm13
 have HE:Hid (q.length≤cap∧q.length≤3∧(∀ s ∈ q,s.length≤1)∧RdS wz A q∧∀ k,A.map (·.block)=some k→w.heap.size≤k):=⟨hq1,hq2,hq3,hq4,hq5⟩
 clear hq1 hq2 hq3 hq4 hq5 hm
 go_wp2_with fail
 go_ret
 exact ⟨A,q,cap,rfl,HE.out.1,HE.out.2.1,HE.out.2.2.1,HE.out.2.2.2.1,HBW.out,HE.out.2.2.2.2⟩
end Tm
end Go.Proofs.YtjoedamiilgajaaGreat
