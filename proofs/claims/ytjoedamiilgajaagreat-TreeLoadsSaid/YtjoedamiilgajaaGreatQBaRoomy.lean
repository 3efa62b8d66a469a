/-
  OWN WORK. Same, Roomy, Intact over bytes, by their contracts.
-/
import Derived.Test.YtjoedamiilgajaaGreatQ01
set_option maxHeartbeats 2000000
namespace Go.Proofs.YtjoedamiilgajaaGreat
open Go.RowKit
theorem same_any (l:List UInt8) (A1 A2:Option Addr) (c1 c2:Nat) (w:World) (h1:Rd w A1 l) (h2:Rd w A2 l) (hl:l.length≤9223372036854775807) :
    Calls Tryz.prog 102 #[.slice A1 l.length c1,.slice A2 l.length c2] w fun e w'=>e=.returned (.bool true)∧∃ n,w'=w.drewN n:=by
 have H1:Hid (Rd w A1 l):=h1
 have H2:Hid (Rd w A2 l):=h2
 have tl:(((l.length:Nat):Int) != ((l.length:Nat):Int))=false:=by simp
 clear h1 h2
 go_enter Tryz.func102,Tryz.ntmps102
 go_wp2_with fail
 go_loopw [5] (fun t5 wr=>∃ k:Nat,k≤l.length∧t5=.int .i64 k∧∃ n,Hid (wr=w.drewN n)) (fun t5 _=>l.length-(intOf t5).toNat)
 case atStart=>exact ⟨0,by omega,rfl,0,rfl⟩
 case round =>
  obtain ⟨k,hk,rfl,n,hw⟩:=hrel
  obtain rfl:=hw.out
  by_cases hlt:k<l.length
  ·obtain ⟨b1,o1,rfl,_,hc1⟩:=H1.out.at_ (by omega)
   obtain ⟨b2,o2,rfl,_,hc2⟩:=H2.out.at_ (by omega)
   have d1:=hc1 k hlt
   have d2:=hc2 k hlt
   generalize l.getD k 0=x at *
   have tx:(((x.toNat:Nat):Int) != ((x.toNat:Nat):Int))=false:=by simp
   clear hc1 hc2
   go_wp2_with fail
   go_quiet (fail)
   go_wp2_with fail
   go_roundw
   case rel=>first|exact ⟨k+1,by omega,by go_num,n+nq,rfl⟩|exact ⟨k+1,by omega,by go_num,_,rfl⟩
   case measure=>simp [intOf];omega
  ·go_wp2_with fail
   go_ret
   exact ⟨rfl,n,rfl⟩
theorem take_app (l r:List UInt8):(l++r).take l.length=l:=List.take_left
set_option maxRecDepth 100000 in
theorem intact_any (l:List UInt8) (A1 A2:Option Addr) (c1 c2:Nat) (w:World) (h1:Rd w A1 (l++List.replicate 80 165)) (hc1:l.length+80≤c1) (h2:Rd w A2 l) (hl:l.length≤140737488351232) :
    Calls Tryz.prog 43 #[.slice A1 (l.length+80) c1,.slice A2 l.length c2,.int .u8 165] w fun e w'=>e=.returned (.bool true)∧∃ n,w'=w.drewN n:=by
 have H1:Hid (Rd w A1 (l++List.replicate 80 165)):=h1
 have H2:Hid (Rd w A2 l):=h2
 have HS:Hid (Rd w A1 l):=by
  have:=h1.take l.length
  rw [take_app] at this
  exact this
 have hsl:=fun W=>sl_h W A1 (l.length+80) c1 l.length (by omega)
 have tl:((((l.length+80:Nat):Nat):Int) != ((l.length:Nat):Int)+80)=false:=by
  rw [bne_eq_false_iff_eq];omega
 have tl2:(((l.length:Nat):Int)+80 != ((l.length:Nat):Int)+80)=false:=by simp
 clear h1 h2
 go_enter Tryz.func43,Tryz.ntmps43
 go_wp2_with fail
 refine (same_any l A1 A2 c1 c2 w HS.out H2.out (by omega)).mono ?_
 rintro e w1 ⟨rfl,n1,rfl⟩
 go_wp2_with fail
 go_loop [7] (fun t7=>∃ k:Nat,l.length≤k∧k≤l.length+80∧t7=.int .i64 k) (fun t7=>l.length+80-(intOf t7).toNat)
 case atStart=>exact ⟨l.length,by omega,by omega,rfl⟩
 case round =>
  obtain ⟨k,hk1,hk2,rfl⟩:=hrel
  by_cases hlt:k<l.length+80
  ·obtain ⟨b1,o1,rfl,_,hc⟩:=H1.out.at_ (by simp)
   have d1:=hc k (by simp;omega)
   have e1:(l++List.replicate 80 (165:UInt8)).getD k 0=165:=by
    simp only [List.getD,List.getElem?_append_right hk1,List.getElem?_replicate]
    rw [if_pos (by omega)]
    rfl
   rw [e1] at d1
   have d2:w.cell? ⟨b1,o1+k,none⟩=some (.int .u8 165):=d1
   clear hc d1 e1
   go_wp2_with fail
   go_round
   case rel=>exact ⟨k+1,by omega,by omega,by go_num⟩
   case measure=>simp [intOf];omega
  ·go_wp2_with fail
   go_ret
   exact ⟨rfl,n1,rfl⟩
def RoomAt (l:List UInt8) (g:Nat) (w0 wr:World) (k:Nat):Prop :=
 Blk wr g 5 (Lib.byteCells (l++(List.replicate k 165++List.replicate (80-k) 0)))∧Below w0.heap.size w0 wr∧w0.heap.size≤g
theorem RoomAt.step {l:List UInt8} {g:Nat} {w0 wr:World} {k:Nat} (h:RoomAt l g w0 wr k) (hk:k<80):RoomAt l g w0 (wr.setCell ⟨g,l.length+k,none⟩ (.int .u8 165)) (k+1):=by
 obtain ⟨h1,h2,h3⟩:=h
 refine ⟨?_,h2.setCell h3 _,h3⟩
 have h4:=h1.set_ (l.length+k) (.int .u8 165)
 have e:(Lib.byteCells (l++(List.replicate k 165++List.replicate (80-k) 0))).set (l.length+k) (.int .u8 165)=Lib.byteCells (l++(List.replicate (k+1) 165++List.replicate (80-(k+1)) 0)):=by
  have e0:(Value.int .u8 165:Value)=(fun b:UInt8=>Value.int .u8 b.toNat) 165:=rfl
  unfold Lib.byteCells
  rw [e0,← List.map_set,List.set_append_right _ _ (by omega),Nat.add_sub_cancel_left,List.set_append_right _ _ (by simp),List.length_replicate,Nat.sub_self]
  have e1:List.replicate (80-k) (0:UInt8)=0 :: List.replicate (80-(k+1)) 0:=by
   rw [show 80-k=(80-(k+1))+1 by omega];rfl
  rw [e1,List.set_cons_zero,List.replicate_succ']
  simp
 rw [e] at h4
 exact h4
set_option maxRecDepth 100000 in
theorem roomy_any (l:List UInt8) (A:Option Addr) (cap:Nat) (w:World) (h:Rd w A l) (hl:l.length≤140737488351232) :
    Calls Tryz.prog 42 #[.slice A l.length cap,.int .u8 165] w fun e w'=>∃ g,e=.returned (.slice (some ⟨g,0,none⟩) (l.length+80) (l.length+80))∧RoomAt l g w w' 80:=by
 obtain ⟨i0,hi,hz0,hz1,hz2⟩:=info_parts Tryz.infoU8
 have HI0:=Lib.hid hi
 have HZ0:=Lib.hid hz0
 have HZ1:=Lib.hid hz1
 have HZ2:=Lib.hid hz2
 have HR:Hid (Rd w A l):=h
 clear hi hz0 hz1 hz2 h
 go_enter Tryz.func42,Tryz.ntmps42
 go_upto_region 2 with (first
  | (at_make;refine wpList_make_full _ rfl _ _ 39 rfl w.heap.size 5 i0 (.int .u8 0) 1 Tryz.underlying39 HI0.out HZ0.out HZ1.out .i64 .i64 _ _ (l.length+80) rfl rfl (by omega) (by omega) (by rw [HZ2.out];omega) (by unfold maxLen;omega) (Nat.le_refl _) ?_;intro w0 hown0 hgrow0))
 have HB0:Hid (Blk w0 w.heap.size 5 (Lib.byteCells (List.replicate (l.length+80) 0))):=by
  rw [made_bytes] at hown0
  rcases hown0.2 with ⟨h1,_⟩|⟨g,cap',cur,h1,h2,h3,h4,h5,h6,h7⟩
  ·cases h1
  ·injection h1 with h1 _ h8
   injection h1 with h1
   injection h1 with h1
   subst h1 h8
   rw [List.take_of_length_le (by rw [Array.length_toList];omega)] at h7
   show w0.heap[w.heap.size]?=_
   rw [h3,← h7]
 have HL0:Hid (Below w.heap.size w w0):=(Below.refl _ _).grown hgrow0 (Nat.le_refl _) (fun k hk=>by cases hk)
 clear hown0 hgrow0
 have HNM:Hid ((Lib.byteCells l).length=Nat.min l.length (l.length+80)):=by show _=_;rw [Lib.byteCells_length];exact (Nat.min_eq_left (by omega)).symm
 have HLN:Hid ((Lib.byteCells l).length=l.length):=Lib.byteCells_length l
 have HFIT:Hid (0+(Lib.byteCells l).length≤(Lib.byteCells (List.replicate (l.length+80) 0)).length):=by
  show _≤_
  rw [Lib.byteCells_length,Lib.byteCells_length,List.length_replicate];omega
 have HPOS:Hid (0<(Lib.byteCells l).length→(some (⟨w.heap.size,0,none⟩:Addr)=some ⟨w.heap.size,0,none⟩∧∃ ad,A=some ad∧∀ j v,(Lib.byteCells l)[j]?=some v→w0.cell? (ad.add j)=some v)):=by
  intro hp
  rw [Lib.byteCells_length] at hp
  obtain ⟨b,off,hA,_,hc⟩:=(HR.out.below HL0.out) hp
  refine ⟨rfl,_,hA,fun j v hv=>?_⟩
  simp only [Lib.byteCells,List.getElem?_map,Option.map_eq_some_iff] at hv
  obtain ⟨x,hx,rfl⟩:=hv
  rw [add_plain]
  exact hc j x hx
 go_wp2_with (refine wpList_copy_keep rfl (.tmp 11) (.tmp 12) 39 39 rfl 5 Tryz.underlying39 (by kernel_rfl) (some ⟨w.heap.size,0,none⟩) A (l.length+80) (l.length+80) l.length cap rfl rfl w.heap.size 0 (Lib.byteCells (List.replicate (l.length+80) 0)) 5 HB0.out (Lib.byteCells l) HNM.out HPOS.out l.length HLN.out HFIT.out (bytes_one _) ?_;intro w2 HB2 HK2)
 have HRM:Hid (RoomAt l w.heap.size w w2 0):=by
  refine ⟨?_,Keeps.below HL0.out HK2.out (Nat.le_refl _) HL0.out.size,Nat.le_refl _⟩
  have h1:=HB2.out
  have e:splice (Lib.byteCells (List.replicate (l.length+80) 0)) 0 (Lib.byteCells l)=Lib.byteCells (l++(List.replicate 0 165++List.replicate (80-0) 0)):=by
   unfold splice
   rw [List.take_zero,List.nil_append,Lib.byteCells_length,Nat.zero_add]
   unfold Lib.byteCells
   rw [← List.map_drop,List.drop_replicate,Nat.add_sub_cancel_left]
   simp
  rw [e] at h1
  exact h1
 clear HB2 HK2 HB0 HL0 HNM HLN HFIT HPOS
 go_loopw [6] (fun t6 wr=>∃ k:Nat,k≤80∧t6=.int .i64 (l.length+k)∧Hid (RoomAt l w.heap.size w wr k)) (fun t6 _=>l.length+80-(intOf t6).toNat)
 case atStart=>exact ⟨0,by omega,by simp,HRM⟩
 case round =>
  obtain ⟨k,hk,rfl,HRM⟩:=hrel
  by_cases hlt:k<80
  ·have hcell:wr.cell? ⟨w.heap.size,l.length+k,none⟩=some (.int .u8 0):=by
    rw [HRM.out.1.cell]
    simp only [Lib.byteCells,List.getElem?_map,List.getElem?_append_right (Nat.le_add_right l.length k),Nat.add_sub_cancel_left]
    rw [List.getElem?_append_right (by simp),List.length_replicate,Nat.sub_self,List.getElem?_replicate,if_pos (by omega)]
    rfl
   have hfr:=HRM.out.1.frozen (l.length+k)
   go_wp2_with fail
   go_roundw
   case rel=>exact ⟨k+1,by omega,by go_num,HRM.out.step hlt⟩
   case measure=>simp [intOf];omega
  ·obtain rfl:k=80:=by omega
   go_wp2_with fail
   go_ret
   exact ⟨w.heap.size,rfl,HRM.out⟩
theorem room_rd {l:List UInt8} {g:Nat} {w0 wr:World} (h:RoomAt l g w0 wr 80):Rd wr (some ⟨g,0,none⟩) (l++List.replicate 80 165):=by
 have:=rd_of_blk h.1
 simpa using this
end Go.Proofs.YtjoedamiilgajaaGreat
