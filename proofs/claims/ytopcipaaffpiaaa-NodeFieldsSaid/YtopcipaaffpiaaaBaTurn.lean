/-
  OWN WORK. Regions that draw, with an object that is turned more than once, each answer of which is looked at later.
-/
import Derived.Test.YtopcipaaffpiaaaBaObj
namespace Go.Proofs.Ytopcipaaffpiaaa
open Go.RowKit Rc
namespace Ob

section
variable {P : Program} {F : Nat → Rc.Fact} {cons : List (Nat × Nat)} {E : Nat → (Nat → Value) → Value → Prop} {V : Nat → Value} {S : Nat → Nat → Prop} {j : Nat} {o : Oper} {b : Act} {w : World}
theorem step_call1 {f : FuncId} {xs : Array Operand} {ts : Array TypeId} (args : Array Value) (hent : ∀ args w, (callFunc f args).run P w = .ok (.enter f args) w) (hop : o.op = .call { callee := .value (.func f), args := xs, argTypes := ts }) (hargs : xs.map b.eval = args) (hg : Rg.Open o V)
    (h : Calls P f args w fun e w' => ∃ v T, e = .returned v ∧ Mod w w' (Taken cons S j) ∧ (F j).holds v w' T ∧ (∀ k, T k → (Taken cons S j k ∨ w.heap.size ≤ k) ∧ k < w'.heap.size) ∧ E j V v) : Rg.Does1 P o V b w (Rc.Good F cons E V S j w) :=
  .of hg fun K hK => by
    have he : (execOp b.eval o).run P w = .ok (.enter f args) w := by
      subst hargs
      have : execOp b.eval o = callFunc f (#[] ++ xs.map b.eval ++ #[]) := by
        obtain ⟨dst, op, ty, pos, after, guard⟩ := o
        simp only at hop
        subst hop
        rfl
      rw [this, hent]
      simp
    unfold Oper.wp; rw [he]
    refine h.mono ?_
    rintro e w' ⟨v, T, rfl, hb, hf, ho, hE⟩
    exact hK v w' ⟨T, hb, hf, ho, hE⟩
end
section
variable {σ : Type} {F : Nat → Rc.Fact} {cons : List (Nat × Nat)} {E : Nat → (Nat → Value) → Value → Prop} {V : Nat → Value} {S : Nat → Nat → Prop} {j : Nat} {o : Oper} {b : Act} {w w0 : World} {B : Nat → Prop}
theorem step_turn1 (O : Obj σ) {v x : Value} {s s' : σ} {i : Nat} {fn : FuncId} {xs : Array Operand} {ts : Array TypeId} (args : Array Value) (hent : ∀ args w, (callFunc fn args).run Try.prog w = .ok (.enter fn args) w)
    (hop : o.op = .call { callee := .value (.func fn), args := xs, argTypes := ts }) (hargs : xs.map b.eval = args) (hF : F j = turned O v (Ups B w0) x s') (hi : (j, i) ∈ cons) (hu : ∃ S1, O.At v s S1 w ∧ (∀ b, S1 b → S i b) ∧ ∀ b, S1 b → Ups B w0 b)
    (hE : E j V x) (hg : Rg.Open o V) (hw : w0.heap.size ≤ w.heap.size) (hcall : ∀ S1, O.At v s S1 w → (∀ b, S1 b → S i b) → (∀ b, S1 b → Ups B w0 b) → Calls Try.prog fn args w (Turns O v s' x S1 w)) : Rg.Does1 Try.prog o V b w (Rc.Good F cons E V S j w) := by
  obtain ⟨S1, hat, hsub, hup⟩ := hu
  refine step_call1 args hent hop hargs hg ((hcall S1 hat hsub hup).mono ?_)
  rintro e w' ⟨rfl, S', hat', hm, hS'⟩
  have ht : ∀ b, S1 b → Taken cons S j b := fun b hb => ⟨i, hi, hsub b hb⟩
  refine ⟨_, S', rfl, hm.mono fun k _ hk => ht k hk, ?_, fun k hk => ⟨(hS' k hk).imp (ht k) id, O.lt hat' k hk⟩, hE⟩
  rw [hF]
  exact ⟨rfl, S', hat', fun _ h => h, fun b hb => (hS' b hb).elim (hup b) (fun h => .inr (Nat.le_trans hw h))⟩
end
theorem one_inv_al {σ : Type} (O : Obj σ) {v : Value} {s : σ} {B : Nat → Prop} {w : World} (h : O.At v s B w) (F : Nat → Rc.Fact) (cons : List (Nat × Nat)) (n : Nat) (hF : F n = turned O v (Ups B w) undef s) {al : List (Nat × Nat × (Value → Value))} (hal : (al.all fun x => decide (x.1 < n)) = true) :
    Rc.Inv F cons (Rg.alias al) w.drew B (fun i => n ≤ i ∧ i < n + 1) (fun _ => undef) (fun _ b => B b) w.drew := by
  have h0 := one_inv O h F cons n hF
  refine ⟨h0.mod, h0.holds, h0.lt, h0.sep, fun j hj => fun i f hm => ?_⟩
  have := List.all_eq_true.1 hal _ hm
  simp only [decide_eq_true_eq] at this
  have := hj.1
  omega
/-- The answer of a call that is told to be so. -/
theorem alias_one {j i : Nat} {x : Value} {V : Nat → Value} : Rg.alias [(j, i, fun _ => x)] j V x := fun i' f hm => by
  simp only [List.mem_singleton, Prod.mk.injEq] at hm
  obtain ⟨_, _, rfl⟩ := hm
  rfl
end Ob
end Go.Proofs.Ytopcipaaffpiaaa
