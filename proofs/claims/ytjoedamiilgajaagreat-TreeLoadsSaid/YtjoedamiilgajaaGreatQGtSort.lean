/-
  OWN WORK. The program's tree: names in their order: slices.SortFunc over a row of rows.
-/
import Derived.Test.YtjoedamiilgajaaGreatQUpJoin
import Derived.Test.YtjoedamiilgajaaGreatQMsRows
import Derived.Test.YtjoedamiilgajaaGreatQ12
import Derived.Test.YtjoedamiilgajaaGreatQ02
import Derived.Sort.Grow
namespace Go.Proofs.YtjoedamiilgajaaGreat
open Go.RowKit Rc
open Tr (Nm En T)
namespace Gt
/-! The order. -/
theorem cb_less:∀ a b:Bs,decide (Lib.compareBytes a b<0)=Tr.less a b
 | [],[]=>rfl
 | [],_ :: _=>rfl
 | _ :: _,[]=>rfl
 | a :: x,b :: y=>by
   have h:=cb_less x y
   unfold Tr.less at h ⊢
   unfold Lib.compareBytes Op.bytesLess
   by_cases h1:a<b
   ·simp [h1]
   ·by_cases h2:b<a
    ·have h3:a≠b:=fun e=>by subst e;exact h1 h2
     simp [h1,h2,h3]
    ·have h3:a=b:=UInt8.le_antisymm (UInt8.not_lt.1 h2) (UInt8.not_lt.1 h1)
     simp [h1,h2,h3,h]
def cmpP (p q:List Bs):Int:=Lib.compareBytes (Pa.join p) (Pa.join q)
theorem cmpP_less (p q:List Bs):decide (cmpP p q<0)=Tr.less (Pa.join p) (Pa.join q):=cb_less _ _
abbrev EltP (w:World) (blk:Nat) (S:Nat→Prop) (y:Option Addr × List Bs × Nat):Prop:=y.2.1.length≤y.2.2∧RdS w y.1 y.2.1∧(∀ b,y.1.map (·.block)=some b→(b≠blk∧b<w.heap.size)∧S b)∧(Dr.joined y.2.1).length≤140737488355328
def Elt (w:World) (blk:Nat) (S:Nat→Prop):={y:Option Addr × List Bs × Nat // EltP w blk S y}
instance (w:World) (blk:Nat) (S:Nat→Prop):Inhabited (Elt w blk S):=⟨⟨(none,[],0),Nat.le_refl _,(fun h=>absurd h (Nat.lt_irrefl 0)),(fun b h=>nomatch h),Nat.zero_le _⟩⟩
section
variable {w:World} {blk:Nat} {S:Nat→Prop}
def encE (y:Elt w blk S):Value:=.slice y.1.1 y.1.2.1.length y.1.2.2
def cfE (x y:Elt w blk S):Int:=cmpP x.1.2.1 y.1.2.1
theorem lt_is (x y:Elt w blk S):ltOf cfE x y=decide (Pa.join x.1.2.1<Pa.join y.1.2.1):=by
 show decide (cmpP _ _<0)=_
 rw [cmpP_less,Tr.less_eq]
theorem swo:Go.Sort.SWO (ltOf (cfE (w:=w) (blk:=blk) (S:=S))) where
 irrefl x:=by rw [lt_is];simp
 trans x y z h1 h2:=by
  rw [lt_is] at *
  simp only [decide_eq_true_eq] at *
  exact List.lt_trans h1 h2
 ntrans x y z h1 h2:=by
  rw [lt_is] at *
  simp only [decide_eq_false_iff_not,List.not_lt] at *
  exact List.le_trans h2 h1
end
theorem grow_of {W w':World} (hb:Below W.heap.size W w') (hd:W.drawn≤w'.drawn):∃ q os,w'=Go.Sort.grow (W.drewN q) os:=by
 obtain ⟨h1,h2,h3,h4,h5⟩:=hb
 refine ⟨w'.drawn-W.drawn,w'.heap.extract W.heap.size w'.heap.size,?_⟩
 cases w' with
 | mk heap tape drawn os output =>
   cases W with
   | mk heap0 tape0 drawn0 os0 output0 =>
     simp only at h1 h2 h3 h4 h5 hd
     subst h1 h2 h3
     simp only [Go.Sort.grow,World.drewN,World.mk.injEq]
     refine ⟨?_,trivial,by omega,trivial,trivial⟩
     apply Array.ext_getElem?
     intro k
     rw [Array.getElem?_append]
     split
     ·rename_i h;exact h5 k h
     ·rw [Array.getElem?_extract]
      split
      ·rename_i h6 h7;congr 1;omega
      ·rename_i h6 h7;rw [Array.getElem?_eq_none];omega
set_option maxHeartbeats 1000000 in
set_option maxRecDepth 100000 in
theorem names2_any (W:World) (A1 A2:Option Addr) (p q:List Bs) (c1 c2:Nat) (hr1:RdS W A1 p) (hr2:RdS W A2 q) (hl1:(Dr.joined p).length≤140737488355328) (hl2:(Dr.joined q).length≤140737488355328) :
    Calls Tryz.prog 93 #[.slice A1 p.length c1,.slice A2 q.length c2] W fun e w'=>e=.returned (.int .i64 (cmpP p q))∧Below W.heap.size W w'∧W.drawn≤w'.drawn:=by
 have HR2:=Lib.hid hr2
 have HJ:=Lib.hid (Dr.join_up p A1 c1 W hr1 hl1)
 have HL2:=Lib.hid hl2
 clear hr1 hr2 hl1 hl2
 go_enter Tryz.func93,Tryz.ntmps93
 go_wp2_with fail
 refine HJ.out.mono ?_
 rintro e w1 ⟨rfl,hb1,hd1⟩
 have HB1:=Lib.hid hb1
 have HD1:=Lib.hid hd1
 clear hb1 hd1
 go_wp2_with fail
 refine (Dr.join_up q A2 c2 w1 (HR2.out.below HB1.out) HL2.out).mono ?_
 rintro e w2 ⟨rfl,hb1,hd1⟩
 have HB2:=Lib.hid (HB1.out.trans (hb1.mono HB1.out.size))
 have HD2:=Lib.hid (Nat.le_trans HD1.out hd1)
 clear hb1 hd1
 go_wp2_with fail
 refine (Tryz.strings_Compare (strOf (Pa.join p)) (strOf (Pa.join q)) w2).mono ?_
 rintro e w3 ⟨rfl,hw3⟩
 obtain rfl:=hw3.symm
 go_wp2_with fail
 go_ret
 exact ⟨rfl,HB2.out,HD2.out⟩
end Gt
end Go.Proofs.YtjoedamiilgajaaGreat
