/-
  OWN WORK. The program's tree: Read, Look, List.
-/
import Derived.Test.YtbnpgakmhhfjkaaGreatDoorO08
namespace Go.Proofs.YtbnpgakmhhfjkaaGreatDoor
open Go.RowKit Rc
open Tr (Nm En T)
namespace Tm
variable {p:Nat} {av:Value} {gs:List Nat} {S:Nat→Prop} {t:T} {w:World}
def RAns (l:Bs) (n:Nat) (w:World) (e:Ending) (w':World):Prop:=∃ x,e=.returned (.tuple #[x,.int .i64 (n:Nat)])∧Ob.Fresh l w x w'∧Below w.heap.size w w'
theorem RAns.none (n:Nat) {w w':World} (hb:Below w.heap.size w w'):RAns [] n w (.returned (.tuple #[.slice none 0 0,.int .i64 (n:Nat)])) w':=⟨_,rfl,⟨rfl,.inl ⟨rfl,rfl⟩⟩,hb⟩
set_option maxHeartbeats 2000000 in
set_option maxRecDepth 100000 in
theorem read_any (h:TIn p av gs S t w) (hG:Tr.Good t) (i a m:Int) (ha:-9223372036854775808≤a∧a≤9223372036854775807) (hm:-9223372036854775808≤m∧m≤9223372036854775807) :
    Calls Tryz.prog 22 #[.pointer (some ⟨p,0,none⟩),.int .i64 i,.int .i64 a,.int .i64 m] w (RAns (Tr.read t i a m).1 (Tr.read t i a m).2 w):=by
 have HF:=Lib.hid (file_any h hG i)
 rcases Tr.file_cases t i with ⟨h1,h2⟩|⟨h1,e,h2,h3⟩|⟨h1,e,h2,h3⟩
 any_goals
  have HN:Hid (Tr.read t i a m=([],Tr.file t i)):=by
   show _=_
   unfold Tr.read
   rw [if_pos (by rw [h1];simp)]
  rw [HN.out,h1]
  rw [h1] at HF
  unfold fileV at HF
  clear h hG h1
  go_enter Tryz.func22,Tryz.ntmps22
  go_wp2_with fail
  refine HF.out.mono ?_
  rintro e w1 ⟨rfl,rfl⟩
  go_wp2_with fail
  go_ret2
  exact RAns.none _ (Below.refl _ _)
 obtain ⟨g,S1,hp,hE,_,_⟩:=h.ptr hG h2
 have HV:fileV gs t i 0=.tuple #[.pointer (some ⟨g,0,none⟩),.int .i64 0]:=by
  unfold fileV
  rw [if_pos rfl,hp];rfl
 rw [h1,HV] at HF
 have hread:Tr.read t i a m=if a<0∨m<0 then ([],1) else ((e.data.drop a.toNat).take m.toNat,0):=by
  unfold Tr.read
  rw [if_neg (by rw [h1];simp),Tr.dataOf_of h2]
 have hok:=hG.each e (Tr.find_some h2).1
 have hdn:e.data.length≤4096:=by
  have h4:=hok.size
  have h5:=hok.nd.2.2.2.2.2.1
  omega
 obtain ⟨dv,nv,hEI,rfl⟩:=hE
 have c6:w.cell? ⟨g,6,none⟩=some dv:=hEI.box.cell 6
 obtain ⟨A,c,hdv,hc,hA⟩:=own_form hEI.data
 obtain ⟨dl,hdl⟩:∃ dl,dl=e.data:=⟨_,rfl⟩
 rw [← hdl] at hread hdn hdv hc hA
 have hrd:Rd w A dl:=fun hl=>by
  obtain ⟨q,h4,_,_,h5,h6⟩:=hA hl
  exact ⟨q,0,h4,h5,fun j x hx=>by rw [Nat.zero_add];exact h6 j _ (by simp [Lib.byteCells,hx])⟩
 have HK:=Lib.hid hread
 have HRD:=Lib.hid hrd
 subst hdv
 clear h hG h1 h2 h3 hp HV hok hEI hdl hread hrd hA
 by_cases ha0:a<0
 ·have HN:Hid (Tr.read t i a m=([],1)):=by
   have:=HK.out
   rw [if_pos (.inl ha0)] at this
   exact this
  rw [HN.out]
  go_enter Tryz.func22,Tryz.ntmps22
  go_wp2_with fail
  refine HF.out.mono ?_
  rintro e w1 ⟨rfl,rfl⟩
  go_wp2_with fail
  go_ret2
  exact RAns.none _ (Below.refl _ _)
 by_cases hm0:m<0
 ·have HN:Hid (Tr.read t i a m=([],1)):=by
   have:=HK.out
   rw [if_pos (.inr hm0)] at this
   exact this
  rw [HN.out]
  go_enter Tryz.func22,Tryz.ntmps22
  go_wp2_with fail
  refine HF.out.mono ?_
  rintro e w1 ⟨rfl,rfl⟩
  go_wp2_with fail
  go_ret2
  exact RAns.none _ (Below.refl _ _)
 obtain ⟨an,rfl⟩:∃ an:Nat,a=(an:Int):=⟨a.toNat,by omega⟩
 obtain ⟨mn,rfl⟩:∃ mn:Nat,m=(mn:Int):=⟨m.toNat,by omega⟩
 have HN:Hid (Tr.read t i an mn=((dl.drop an).take mn,0)):=by
  have:=HK.out
  rw [if_neg (by omega),Int.toNat_natCast,Int.toNat_natCast] at this
  exact this
 rw [HN.out]
 obtain ⟨lo,hlo⟩:∃ lo,lo=if dl.length<an then dl.length else an:=⟨_,rfl⟩
 have hlo1:lo≤dl.length:=by rw [hlo];split <;> omega
 obtain ⟨k,hk⟩:∃ k,k=if dl.length-lo<mn then dl.length-lo else mn:=⟨_,rfl⟩
 have hk1:k≤dl.length-lo:=by rw [hk];split <;> omega
 have HEQ:Hid ((dl.drop an).take mn=(dl.drop lo).take k):=by
  show _=_
  rw [hlo] at hk ⊢
  by_cases h4:dl.length<an
  case neg =>
   rw [if_neg h4] at hk ⊢
   by_cases h5:dl.length-an<mn
   ·rw [if_pos h5] at hk
    rw [List.take_of_length_le (by rw [List.length_drop];omega),List.take_of_length_le (by rw [List.length_drop];omega)]
   ·rw [if_neg h5] at hk;rw [hk]
  case pos =>
   rw [if_pos h4] at hk ⊢
   rw [List.drop_eq_nil_of_le (by omega),List.drop_eq_nil_of_le (by omega),List.take_nil,List.take_nil]
 obtain ⟨X,hX⟩:∃ X,X=cutA A lo c:=⟨_,rfl⟩
 have q1:∀ w',(Instr.sliceAt 23 (.slice A dl.length c) (some (.int .i64 (lo:Int))) none none).run Tryz.prog w'=.ok (.slice X (dl.length-lo) (c-lo)) w':=fun w'=>by rw [hX];exact sl_l w' A dl.length c lo hlo1
 have q2:∀ w',(Instr.sliceAt 23 (.slice X (dl.length-lo) (c-lo)) none (some (.int .i64 (k:Int))) none).run Tryz.prog w'=.ok (.slice X k (c-lo)) w':=fun w'=>sl_h w' _ _ _ k (by omega)
 have HRK:Hid (∀ W,Below w.heap.size w W→Rd W X ((dl.drop lo).take k)):=fun W hW=>by
  rw [hX]
  have h4:=(HRD.out.cut lo c hc).take k
  exact h4.below hW
 have HLK:Hid (((dl.drop lo).take k).length=k):=by show _=_;rw [List.length_take,List.length_drop];omega
 have hmin1:(if dl.length<an then (dl.length:Int) else (an:Int))=(lo:Int):=by rw [hlo];split <;> rfl
 have hmin2:(if dl.length-lo<mn then ((dl.length-lo:Nat):Int) else (mn:Int))=(k:Int):=by rw [hk];split <;> rfl
 have HM1:=Lib.hid hmin1
 have HM2:=Lib.hid hmin2
 have HCL:Hid (∀ W,Below w.heap.size w W→Calls Tryz.prog 65 #[.slice X k (c-lo)] W fun e w'=>∃ v,e=.returned v∧w'.ownsRow W.heap.size 5 1 v ((dl.drop lo).take k).length (Lib.byteCells ((dl.drop lo).take k))∧Below W.heap.size W w'):=fun W hW=>by
  have h4:=clone_any W X ((dl.drop lo).take k) (c-lo) (HRK.out W hW) (by rw [HLK.out];omega)
  rw [show (Value.slice X ((dl.drop lo).take k).length (c-lo))=.slice X k (c-lo) by rw [HLK.out]] at h4
  exact h4
 have HLK2:Hid (((dl.drop lo).take k).length≤140737488355328):=by show _≤_;rw [HLK.out];omega
 clear hlo hk HN HK hX
 go_enter Tryz.func22,Tryz.ntmps22
 go_wp2_with fail
 refine HF.out.mono ?_
 rintro e w1 ⟨rfl,rfl⟩
 go_upto_region 6 with (fail)
 go_quiet (fail)
 go_wp2_with fail
 refine (HCL.out _ (by exact ⟨rfl,rfl,rfl,Nat.le_refl _,fun _ _=>rfl⟩)).mono ?_
 rintro e w2 ⟨v,rfl,ho,hb⟩
 have HO:=Lib.hid ho
 have HB:=Lib.hid hb
 clear ho hb
 go_wp2_with fail
 go_ret2
 refine ⟨v,rfl,?_,⟨HB.out.os,HB.out.tape,HB.out.output,HB.out.size,HB.out.block⟩⟩
 rw [HEQ.out]
 exact HO.out
end Tm
end Go.Proofs.YtbnpgakmhhfjkaaGreatDoor
