/-
  OWN WORK. Trees all of whose names are of one letter at most; a new node beside the root's, and gone again.
-/
import Derived.Test.YtjoedamiilgajaaGreatQ06
import Derived.Test.YtjoedamiilgajaaGreatQ14
namespace Go.Proofs.YtjoedamiilgajaaGreat
open Go.RowKit
namespace Tr
variable {t:T}
def Short (t:T):Prop:=∀ e ∈ t,∀ n ∈ e.names,n.1.length≤1
theorem Short.upd (h:Short t) (i:Int) (f:En→En) (hf:∀ e ∈ t,∀ n ∈ (f e).names,n.1.length≤1):Short (upd t i f):=fun e he n hn=>by
 obtain ⟨e0,h0,rfl⟩:=upd_mem he
 split at hn
 ·exact hf e0 h0 n hn
 ·exact h e0 h0 n hn
theorem Short.put (h:Short t) (d:Int) {x:Bs} (hx:x.length≤1) (k:Int):Short (put t d x k):=h.upd d _ fun e he n hn=>by
 rcases ins_mem.1 hn with rfl|h1
 ·exact hx
 ·exact h e he n h1
theorem Short.cut (h:Short t) (d:Int) (x:Bs):Short (cut t d x):=h.upd d _ fun e he n hn=>h e he n (List.mem_filter.1 hn).1
theorem Short.more (h:Short t) (i c:Int):Short (more t i c):=h.upd i _ fun e he n hn=>h e he n hn
theorem Short.remove (h:Short t) (i:Int):Short (remove t i):=fun e he n hn=>h e (List.mem_filter.1 he).1 n hn
theorem Short.insE (h:Short t) (k kd:Int):Short (insE t (fresh k kd)):=fun e he n hn=>by
 rcases insE_mem.1 he with rfl|h1
 ·exact absurd hn (by simp [fresh])
 ·exact h e h1 n hn
theorem place_short (t:T) {p:List Bs} (hp:∀ s ∈ p,s.length≤1):(place t p).2.1.length≤1:=by
 unfold place
 split
 ·exact Nat.zero_le _
 ·split
  ·exact Nat.zero_le _
  ·split
   ·exact Nat.zero_le _
   ·rename_i h1 _ _
    show (p.getLastD []).length≤1
    rw [List.getLastD_eq_getLast?,List.getLast?_eq_some_getLast h1]
    exact hp _ (List.getLast_mem h1)
theorem new_short:Short new:=fun e he n hn=>by
 simp [new,fresh] at he
 subst he
 exact absurd hn (by simp)
theorem make_short (h:Short t) {p:List Bs} (hp:∀ s ∈ p,s.length≤1) (kind:Int):Short (make t p kind).2:=by
 unfold make
 repeat' split
 all_goals first
  | exact h
  | exact (h.insE _ _).put _ (place_short t hp) _
theorem link_short (h:Short t) (p:List Bs) {z:List Bs} (hz:∀ s ∈ z,s.length≤1):Short (link t p z).2:=by
 unfold link
 repeat' split
 all_goals first
  | exact h
  | exact (h.put _ (place_short t hz) _).more _ _
theorem unlink_short (h:Short t) (p:List Bs):Short (unlink t p).2:=by
 unfold unlink unlinked
 repeat' split
 all_goals first
  | exact h
  | exact ((h.cut _ _).more _ _).remove _
  | exact (h.cut _ _).more _ _
theorem rmdir_short (h:Short t) (p:List Bs):Short (rmdir t p).2:=by
 unfold rmdir
 repeat' split
 all_goals first
  | exact h
  | exact (h.cut _ _).remove _
theorem rename_short (h:Short t) (p:List Bs) {z:List Bs} (hz:∀ s ∈ z,s.length≤1):Short (rename t p z).2:=by
 unfold rename
 repeat' split
 all_goals first
  | exact h
  | exact (h.cut _ _).put _ (place_short t hz) _
theorem append_short (h:Short t) (i:Int) (b:Bs):Short (append t i b).2:=by
 unfold append
 repeat' split
 all_goals first
  | exact h
  | (refine Short.upd h i _ ?_
     exact fun e he n hn=>h e he n hn)
theorem seal_short (h:Short t) (i:Int) (u:Nat):Short (seal_ t i u).2:=by
 unfold seal_
 repeat' split
 all_goals first
  | exact h
  | (refine Short.remove (Short.upd h i _ ?_) _
     exact fun e he n hn=>h e he n hn)
  | (refine Short.upd h i _ ?_
     exact fun e he n hn=>h e he n hn)
theorem keep_short (h:Short t) (i:Int) (u:Nat):Short (keep t i u).2:=by
 unfold keep
 repeat' split
 all_goals first
  | exact h
  | (refine Short.upd h i _ ?_
     exact fun e he n hn=>h e he n hn)
theorem drop_short (h:Short t) (i:Int):Short (drop t i).2:=by
 unfold drop
 repeat' split
 all_goals first
  | exact h
  | (refine Short.remove (fun e he n hn=>?_) _
     obtain ⟨e0,h0,rfl⟩:=List.mem_map.1 he
     exact h e0 h0 n (List.mem_filter.1 hn).1)
/-! A name that is too long to be there. -/
theorem Short.none (h:Short t) (i:Int) {x:Bs} (hx:1<x.length):get (kids t i) x=none:=by
 unfold get
 rw [Option.map_eq_none_iff,List.find?_eq_none]
 intro n hn
 obtain ⟨e,he,hm⟩:=kids_mem hn
 have h1:=h e (find_some he).1 n hm
 simp only [beq_iff_eq]
 rintro rfl
 omega
end Tr
end Go.Proofs.YtjoedamiilgajaaGreat
