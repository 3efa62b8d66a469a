/-
  OWN WORK. Law 11's known, walked.
-/
import Derived.Test.YtjoedamiilgajaaGreatQ12
import Derived.Test.YtjoedamiilgajaaGreatQ06
namespace Go.Proofs.YtjoedamiilgajaaGreat
open Go.RowKit Rc
open Tr (Nm En T)
namespace Tm
def k1:T:=(Tr.make Tr.new [[97]] 2).2
def k2:T:=(Tr.make k1 [[97],[98]] 1).2
def k3:T:=(Tr.link k2 [[97],[98]] [[99]]).2
theorem k1_is:Tr.make Tr.new [[97]] 2=((1,0),k1)∧Tr.make k1 [[97],[98]] 1=((2,0),k2)∧Tr.link k2 [[97],[98]] [[99]]=(0,k3)∧Tr.node k3 2=(⟨2,1,2,0,0,false⟩,true)∧k3.length=3:=by
 refine ⟨?_,?_,?_,?_,?_⟩ <;> rfl
theorem k1_good:Tr.Good k1:=Tr.make_good Tr.new_good _ _
theorem k2_good:Tr.Good k2:=Tr.make_good k1_good _ _
theorem k3_good:Tr.Good k3:=Tr.link_good k2_good _ _
variable {v:Value} {w0 w:World} {t:T} {B:Nat→Prop}
theorem make_lit (h:One1 v w0 t B w) (hG:Tr.Good t) (q:List Bs) (kind:Int) {t':T} {i:Int} {n:Nat} (hq:Tr.make t q kind=((i,n),t')) (hl:q.length≤1000000) (hs:∀ s ∈ q,s.length≤1000000) :
    Calls Tryz.prog 9 #[v,.slice (some ⟨w.heap.size,0,none⟩) q.length q.length,.int .i64 kind] (w.alloc (.cells (txtCells q).toArray 9)) (Turn1 v w0 t' B (.tuple #[.int .i64 i,.int .i64 (n:Nat)]) w):=by
 have h1:=o_make (h.later (bN w (.cells (txtCells q).toArray 9))) hG (some ⟨w.heap.size,0,none⟩) q q.length kind (rds_alloc w q 9 (0,0)) (Nat.le_refl _) hl hs
 rw [hq] at h1
 refine h1.mono ?_
 rintro e w' ⟨he,B',k1,k2,k3⟩
 have hb:=bN w (.cells (txtCells q).toArray 9)
 exact ⟨he,B',k1,⟨k2.os,k2.tape,k2.output,Nat.le_trans hb.size k2.size,fun b hb2 hn=>(k2.block b (Nat.lt_of_lt_of_le hb2 hb.size) hn).trans (hb.block b hb2)⟩,fun b hb2=>(k3 b hb2).imp id fun h4=>Nat.le_trans hb.size h4⟩
theorem Turn1.one {x:Value} {t':T} {e:Ending} {w':World} (h:Turn1 v w0 t' B x w e w'):e=.returned x∧∃ B',Hid (One1 v w0 t' B' w'):=by
 obtain ⟨h1,B',h2,_,_⟩:=h
 exact ⟨h1,B',h2⟩
set_option maxHeartbeats 2000000 in
set_option maxRecDepth 100000 in
theorem known_any (w:World):Calls Tryz.prog 32 #[] w fun e w'=>e=.returned (.bool true)∧Below w.heap.size w w':=by
 have HNEW:=Lib.hid (o_new w)
 go_enter Tryz.func32,Tryz.ntmps32
 go_wp2_with fail
 refine HNEW.out.mono ?_
 rintro e w1 ⟨p,B1,rfl,h1⟩
 have HO:=Lib.hid h1
 clear h1
 go_wp2_with fail
 refine (make_lit HO.out Tr.new_good [[97]] 2 k1_is.1 (by decide) (by decide)).mono ?_
 intro e w2 ht
 obtain ⟨rfl,B2,H2⟩:=ht.one
 clear ht HO
 go_wp2_with fail
 refine (make_lit H2.out k1_good [[97],[98]] 1 k1_is.2.1 (by decide) (by decide)).mono ?_
 intro e w3 ht
 obtain ⟨rfl,B3,H3⟩:=ht.one
 clear ht H2
 go_wp2_with fail
 have hlk:Calls Tryz.prog 13 #[.pointer (some ⟨p,0,none⟩),.slice (some ⟨w3.heap.size,0,none⟩) 2 2,.slice (some ⟨w3.heap.size+1,0,none⟩) 1 1] ((w3.alloc (.cells #[.string (strOf [97]),.string (strOf [98])] 9)).alloc (.cells #[.string (strOf [99])] 9)) (Turn1 (.pointer (some ⟨p,0,none⟩)) w k3 B3 (.int .i64 0) ((w3.alloc (.cells #[.string (strOf [97]),.string (strOf [98])] 9)).alloc (.cells #[.string (strOf [99])] 9))):=by
  have hb1:=bN w3 (.cells #[.string (strOf [97]),.string (strOf [98])] 9)
  have hb2:=bN (w3.alloc (.cells #[.string (strOf [97]),.string (strOf [98])] 9)) (.cells #[.string (strOf [99])] 9)
  have hr1:RdS (w3.alloc (.cells #[.string (strOf [97]),.string (strOf [98])] 9)) (some ⟨w3.heap.size,0,none⟩) [[97],[98]]:=rds_alloc w3 [[97],[98]] 9 (0,0)
  have hr2:RdS ((w3.alloc (.cells #[.string (strOf [97]),.string (strOf [98])] 9)).alloc (.cells #[.string (strOf [99])] 9)) (some ⟨(w3.alloc (.cells #[.string (strOf [97]),.string (strOf [98])] 9)).heap.size,0,none⟩) [[99]]:=rds_alloc _ [[99]] 9 (0,0)
  have h5:=o_link ((H3.out.later hb1).later hb2) k2_good _ _ [[97],[98]] [[99]] 2 1 (hr1.below hb2) (by decide) (by decide) (by decide) hr2 (by decide) (by decide) (by decide)
  rw [k1_is.2.2.1] at h5
  rw [World.size_alloc] at h5
  exact h5
 refine hlk.mono ?_
 intro e w4 ht
 obtain ⟨rfl,B4,H4⟩:=ht.one
 have HND:=Lib.hid (o_node H4.out k3_good 2)
 clear ht H3 hlk
 rw [k1_is.2.2.2.1] at HND
 unfold Nd.val at HND
 go_wp2_with fail
 refine HND.out.mono ?_
 rintro e w5 ⟨rfl,hb5⟩
 have H5:=Lib.hid (H4.out.later hb5)
 clear hb5 H4 HND
 go_wp2_with fail
 have hb6:=bN w5 (.cells #[.int .i64 2,.int .i64 1,.int .i64 2,.int .i64 0,.int .u64 0,.bool false] 59)
 have H6:=Lib.hid (H5.out.later hb6)
 have hcn:=o_count H6.out
 rw [k1_is.2.2.2.2] at hcn
 clear hb6 H5
 refine hcn.mono ?_
 rintro e w6 ⟨rfl,rfl⟩
 clear hcn
 go_wp2_with fail
 go_ret
 exact ⟨rfl,H6.out.low⟩
end Tm
end Go.Proofs.YtjoedamiilgajaaGreat
