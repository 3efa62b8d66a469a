/-
  OWN WORK. What is drawn is never given back: an operation's run leaves no fewer draws than it found.
-/
import Derived.Test.YtjoedamiilgajaaGreatQ01
namespace Go.Proofs.YtjoedamiilgajaaGreat
open Go.RowKit
namespace Dr
theorem ask_le {α:Type} (k:Ask α):∀ w:World,w.drawn≤(w.ask k).2.drawn:=by
 induction k with
 | done a=>intro w;exact Nat.le_refl _
 | ask what range k ih =>
   intro w
   unfold World.ask
   simp only
   split
   ·exact ih _ w
   ·have h:=ih ((Question.extern what range).cut (w.tape w.drawn (Question.extern what range))) { w with drawn:=w.drawn+1 }
    exact Nat.le_trans (Nat.le_succ w.drawn) h
theorem sys_le (w:World) (c:Sys):w.drawn≤(w.sys c).2.drawn:=by
 unfold World.sys
 have h:=ask_le (Kernel.perform c w.os) w
 split
 ·exact Nat.le_refl _
 ·rename_i e
  rw [e] at h
  exact h
theorem farStore_is {p:Program} {w:World} {a:Addr} {v:Value} {b:Bool} {r:World × List Addr} (h:w.farStore p a v b=.ok r):r.1.drawn=w.drawn:=by
 unfold World.farStore at h
 split at h
 ·split at h
  ·rename_i e
   cases h
   unfold World.viewStore at e
   simp only [bind,Except.bind,throw,throwThe,MonadExceptOf.throw,pure,Except.pure] at e
   repeat' (split at e)
   all_goals first
    | (cases e;done)
    | (cases e;rfl)
  ·cases h
 ·cases h
theorem run_le {α:Type} (P:Program) (s:Sem α):∀ (w:World) (v:α) (w':World),s.run P w=.ok v w'→w.drawn≤w'.drawn:=by
 induction s with
 | pure a=>intro w v w' h;simp only [Sem.run,Result.ok.injEq] at h;rw [h.2];exact Nat.le_refl _
 | load m a k ih =>
   intro w v w' h
   simp only [Sem.run] at h
   split at h
   ·(have h9:=ih _ _ _ _ h;exact h9)
   ·split at h
    ·(have h9:=ih _ _ _ _ h;exact h9)
    ·cases h
 | store m a x k ih =>
   intro w v w' h
   by_cases hx:∃ y,x=.agg y
   ·obtain ⟨y,rfl⟩:=hx
    simp only [Sem.run] at h
    cases h
   ·by_cases hy:∃ y,x=.tuple y
    ·obtain ⟨y,rfl⟩:=hy
     simp only [Sem.run] at h
     cases h
    ·rw [Sem.run.eq_5 _ _ _ _ _ _ (fun y e=>hx ⟨y,e⟩) (fun y e=>hy ⟨y,e⟩)] at h
     split at h
     ·split at h
      ·cases h
      ·(have h9:=ih _ _ _ h;exact h9)
     ·split at h
      ·rename_i e
       have h1:=farStore_is e
       have h2:=ih _ _ _ h
       simp only at h1
       omega
      ·cases h
 | new o k ih=>intro w v w' h;(have h9:=ih _ _ _ _ h;exact h9)
 | shape r k ih=>intro w v w' h;(have h9:=ih _ _ _ _ h;exact h9)
 | freeze a n k ih =>
   intro w v w' h
   simp only [Sem.run] at h
   have h2:=ih _ _ _ h
   have:(w.freeze a n).drawn=w.drawn:=by unfold World.freeze;split <;> rfl
   omega
 | frozen a k ih=>intro w v w' h;(have h9:=ih _ _ _ _ h;exact h9)
 | getObj r k ih =>
   intro w v w' h
   simp only [Sem.run] at h
   split at h
   ·cases h
   ·(have h9:=ih _ _ _ _ h;exact h9)
   ·cases h
 | setObj r o k ih =>
   intro w v w' h
   simp only [Sem.run] at h
   split at h
   ·cases h
   ·(have h9:=ih _ _ _ h;exact h9)
   ·cases h
 | choose q k ih =>
   intro w v w' h
   simp only [Sem.run] at h
   split at h
   ·(have h9:=ih _ _ _ _ h;exact h9)
   ·exact Nat.le_trans (Nat.le_succ _) (ih _ _ _ _ h)
 | sys c k ih =>
   intro w v w' h
   exact Nat.le_trans (sys_le w c) (ih _ _ _ _ h)
 | program k ih=>intro w v w' h;(have h9:=ih _ _ _ _ h;exact h9)
 | mark m k ih=>intro w v w' h;simp only [Sem.run] at h;(have h9:=ih _ _ _ h;exact h9)
 | halt h=>intro w v w' h2;cases h2
end Dr
end Go.Proofs.YtjoedamiilgajaaGreat
