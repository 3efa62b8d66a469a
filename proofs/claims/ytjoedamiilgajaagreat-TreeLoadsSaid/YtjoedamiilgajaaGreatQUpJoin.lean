/-
  OWN WORK. path.Join, and what it draws.
-/
import Derived.Test.YtjoedamiilgajaaGreatQUpBuild
import Derived.Test.YtjoedamiilgajaaGreatQ02
namespace Go.Proofs.YtjoedamiilgajaaGreat
open Go.RowKit
namespace Dr
def joined (l:List Bs):Bs:=l.flatMap (47 :: ·)
theorem joined_snoc (l:List Bs) (x:Bs):joined (l++[x])=joined l++47 :: x:=by simp [joined]
theorem joined_take_le (l:List Bs) (k:Nat):(joined (l.take k)).length≤(joined l).length:=by
 conv=>rhs;rw [← List.take_append_drop k l]
 unfold joined
 rw [List.flatMap_append,List.length_append]
 omega
theorem take_snoc' {l:List Bs} {k:Nat} {x:Bs} (h:l[k]?=some x):l.take (k+1)=l.take k++[x]:=by
 rw [List.take_add_one,h];rfl
structure JIn (l:List Bs) (k:Nat) (w wr:World):Prop where
 le:k≤l.length
 text:Lib.IsBuilder 166 5 w.heap.size w.heap.size (Lib.byteCells (joined (l.take k))) wr
 later:Below w.heap.size w wr
 up:w.drawn≤wr.drawn
theorem join_of {l:List Bs} (h:l≠[]):Pa.join l=joined l:=by unfold Pa.join joined;rw [if_neg h]
set_option maxHeartbeats 4000000 in
set_option maxRecDepth 100000 in
theorem join_up (l:List Bs) (A:Option Addr) (cap:Nat) (w:World) (hr:RdS w A l) (hl:(joined l).length≤140737488355328):Calls Tryz.prog 95 #[.slice A l.length cap] w fun e w'=>e=.returned (.string (strOf (Pa.join l)))∧(Below w.heap.size w w'∧w.drawn≤w'.drawn):=by
 by_cases h0:l=[]
 ·subst h0
  go_enter Tryz.func95,Tryz.ntmps95
  go_wp2
  go_ret
  exact ⟨rfl,Below.refl _ _,Nat.le_refl _⟩
 have hp:0<l.length:=List.length_pos_iff.2 h0
 have hll:l.length≤(joined l).length:=by
  clear hl hp h0 hr
  induction l with
  | nil=>simp [joined]
  | cons x l ih=>unfold joined at ih ⊢;rw [List.flatMap_cons,List.length_append,List.length_cons,List.length_cons];omega
 have hlen0:((l.length:Int)==0)=false:=by simp;omega
 have HE:Hid (Pa.join l=joined l):=join_of h0
 have HS:Hid (∀ wr,Below w.heap.size w wr→RdS wr A l):=fun wr h=>hr.below h
 obtain ⟨b,off,rfl,hblt,_⟩:=hr hp
 have HL:=Lib.hid hl
 have HNE:Hid (joined l≠[]):=by
  show _≠_
  intro e
  rw [e] at hll
  have h9:l.length≤0:=hll
  omega
 have hlm:l.length≤140737488355328:=by omega
 clear hr hl hll
 have H0:Hid (JIn l 0 w (w.alloc (.cells #[.pointer none,.slice none 0 0] 166))):=⟨Nat.zero_le _,.inl ⟨Nat.le_refl _,_,heap_alloc_new w _,⟨rfl,.inl ⟨rfl,rfl⟩⟩,by simp [Value.ownBlock]⟩,bN w _,Nat.le_refl _⟩
 go_enter Tryz.func95,Tryz.ntmps95
 go_wp2
 go_loopw [11] (fun t11 wr=>∃ k:Nat,t11=.int .i64 k∧Hid (JIn l k w wr)) (fun t11 _=>l.length-(match t11 with|.int _ k=>k.toNat|_=>0))
 case atStart=>exact ⟨0,rfl,H0⟩
 case round =>
  obtain ⟨k,rfl,HJ⟩:=hrel
  by_cases hk:k<l.length
  ·obtain ⟨x,hx⟩:∃ x,l[k]?=some x:=⟨_,List.getElem?_eq_getElem hk⟩
   have hcell:wr.cell? ⟨b,off+k,none⟩=some (.string (strOf x)):=by
    obtain ⟨b',off',e,h⟩:=(HS.out wr HJ.out.later).at_ hx
    cases e
    exact h
   have HT:Hid (l.take (k+1)=l.take k++[x]):=take_snoc' hx
   have HN:Hid ((joined (l.take k)).length+1+x.length≤140737488355328):=by
    have h1:=joined_take_le l (k+1)
    have h2:=HL.out
    rw [HT.out,joined_snoc,List.length_append,List.length_cons] at h1
    show _≤_
    omega
   have HBS:Hid (w.heap.size≤wr.heap.size):=HJ.out.later.size
   clear hx
   go_wp2_with fail
   refine (writeByte_up w.heap.size w.heap.size _ 47 _ HJ.out.text (by rw [Lib.byteCells_length];have:=HN.out;omega) HBS.out).mono ?_
   rintro e w1 ⟨rfl,hb1,hl1,hd1⟩
   have HB1:Hid (Lib.IsBuilder 166 5 w.heap.size w.heap.size (Lib.byteCells (joined (l.take k)++[47])) w1):=.inr (by rw [Lib.byteCells_append];exact hb1)
   have HL1:Hid (Below w.heap.size w w1):=HJ.out.later.trans hl1
   have HD1:Hid (w.drawn≤w1.drawn):=Nat.le_trans HJ.out.up hd1
   have HBS1:Hid (w.heap.size≤w1.heap.size):=HL1.out.size
   clear hb1 hl1 hd1
   go_wp2_with fail
   refine (writeString_up w.heap.size w.heap.size _ x _ HB1.out (by rw [Lib.byteCells_length,List.length_append];have:=HN.out;simp only [List.length_singleton];omega) HBS1.out).mono ?_
   rintro e w2 ⟨rfl,hb2,hl2,hd2⟩
   have HJ2:Hid (JIn l (k+1) w w2):=by
    refine ⟨hk,.inr ?_,HL1.out.trans hl2,Nat.le_trans HD1.out hd2⟩
    rw [HT.out,joined_snoc,show joined (l.take k)++47 :: x=(joined (l.take k)++[47])++x by simp,Lib.byteCells_append]
    exact hb2
   clear hb2 hl2 hd2
   go_wp2_with fail
   go_roundw
   case rel=>exact ⟨k+1,rfl,HJ2⟩
   case measure=>simp;omega
  ·obtain rfl:k=l.length:=by have:=HJ.out.le;omega
   have HB1:Hid (Lib.IsBuilder 166 5 w.heap.size w.heap.size (Lib.byteCells (joined l)) wr):=by
    have h:=HJ.out.text
    rw [List.take_length] at h
    exact h
   go_wp2_with fail
   refine (text_up w.heap.size w.heap.size _ _ HB1.out HNE.out).mono ?_
   rintro e w1 ⟨rfl,hl1,hd1⟩
   have HL1:Hid (Below w.heap.size w w1):=HJ.out.later.trans hl1
   have HD1:Hid (w.drawn≤w1.drawn):=Nat.le_trans HJ.out.up hd1
   clear hl1 hd1
   go_wp2_with fail
   go_ret
   exact ⟨by rw [HE.out];rfl,HL1.out,HD1.out⟩
end Dr
end Go.Proofs.YtjoedamiilgajaaGreat
