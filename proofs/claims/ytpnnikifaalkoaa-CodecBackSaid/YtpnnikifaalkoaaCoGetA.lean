/-
  OWN WORK. Law 4's get, by its contract, given what the program's own reader does.
-/
import Derived.Test.YtpnnikifaalkoaaCoTwo
namespace Go.Proofs.Ytpnnikifaalkoaa
open Go.RowKit Rc
abbrev codecFns : RFns := ⟨24, 25, 26, 27, 28, 30, 23, 29⟩
section
variable {f : RFns} {C : RSaid f} {v vr : Value} {A1 A2 : Option Addr} {L : List UInt8} {W0 : World} {X0 : Nat → Prop} {s1 s2 : Co.Rs} {B1 B2 : Nat → Prop} {w : World}
theorem Two.a12 (h : Two C v vr A1 A2 L W0 X0 s1 s2 B1 B2 w) : Apart A1 L (fun b => B1 b ∨ B2 b) := fun hl b hA hB => hB.elim (h.a1 hl b hA) (apart_sub h.rd1 h.ap1 h.sub2 hl b hA)
theorem Two.a21 (h : Two C v vr A1 A2 L W0 X0 s1 s2 B1 B2 w) : Apart A2 L (fun b => B1 b ∨ B2 b) := fun hl b hA hB => hB.elim (apart_sub h.rd2 h.ap2 h.sub1 hl b hA) (h.a2 hl b hA)
theorem Two.after (h : Two C v vr A1 A2 L W0 X0 s1 s2 B1 B2 w) {w2 : World} (hm : Mod w w2 (fun b => B1 b ∨ B2 b)) {t1 t2 : Co.Rs} {T1 T2 S1 S2 : Nat → Prop} (h1 : C.At v A1 L t1 S1 w2) (hs1 : ∀ b, S1 b → T1 b) (h2 : RefAt vr A2 L t2 S2 w2) (hs2 : ∀ b, S2 b → T2 b)
    (l1 : ∀ b, T1 b → (B1 b ∨ B2 b) ∨ w.heap.size ≤ b) (l2 : ∀ b, T2 b → (B1 b ∨ B2 b) ∨ w.heap.size ≤ b) (sep : ∀ b, T1 b → ¬ T2 b) : Two C v vr A1 A2 L W0 X0 t1 t2 S1 S2 w2 := by
  have up : ∀ b, (B1 b ∨ B2 b) ∨ w.heap.size ≤ b → X0 b ∨ W0.heap.size ≤ b := fun b hb => hb.elim (fun h2 => h2.elim (h.sub1 b) (h.sub2 b)) (fun h2 => .inr (Nat.le_trans h.mod.size h2))
  exact ⟨Two.more h.mod hm fun b hb => up b (.inl hb), h.rd1, h.rd2, h.ap1, h.ap2, h1, h2, fun b hb => up b (l1 b (hs1 b hb)), fun b hb => up b (l2 b (hs2 b hb)), fun b hb hb2 => sep b (hs1 b hb) (hs2 b hb2)⟩
theorem Two.inv (h : Two C v vr A1 A2 L W0 X0 s1 s2 B1 B2 w) (F : Nat → Rc.Fact) (cons : List (Nat × Nat)) (n : Nat) (hF1 : F n = C.obj v A1 L s1 B1) (hF2 : F (n + 1) = refSaid.obj vr A2 L s2 B2) :
    Rc.Inv F cons (Rg.alias []) w.drew (fun b => B1 b ∨ B2 b) (fun i => n ≤ i ∧ i < n + 2) (fun _ => undef) (fun i b => if i = n then B1 b else B2 b) w.drew := by
  have two : ∀ i, n ≤ i ∧ i < n + 2 → i = n ∨ i = n + 1 := fun i hi => by omega
  refine ⟨Mod.refl _ _, fun i hi => ?_, fun i b hi hb => ?_, fun i k b hi hk hne h1 h2 => ?_, fun j _ => fun i f hm => by simp at hm⟩
  · rcases two i hi.1 with rfl | rfl
    · rw [hF1]; exact ⟨C.keep h.at1 (Nat.le_refl _) (fun _ _ => rfl), by funext b; simp⟩
    · rw [hF2]; exact ⟨refSaid.keep h.at2 (Nat.le_refl _) (fun _ _ => rfl), by funext b; simp⟩
  · rcases two i hi.1 with rfl | rfl
    · simp only [if_true] at hb; exact ⟨C.lt h.at1 b hb, .inl (.inl hb)⟩
    · simp at hb; exact ⟨refSaid.lt h.at2 b hb, .inl (.inr hb)⟩
  · rcases two i hi.1 with rfl | rfl <;> rcases two k hk.1 with rfl | rfl
    · exact hne rfl
    · simp at h1 h2; exact h.dis b h1 h2
    · simp at h1 h2; exact h.dis b h2 h1
    · exact hne rfl
end
section
variable {F : Nat → Rc.Fact} {cons : List (Nat × Nat)} {al : List (Nat × Nat × (Value → Value))} {V : Nat → Value} {S : Nat → Nat → Prop} {j : Nat} {o : Oper} {b : Act} {w : World}
theorem rc_mv (x : Value) (h : (execOp b.eval o).run Try.prog w = .ok (.value x) w) (hF : F j = Rc.val x) (ha : (al.all fun x => x.1 != j) = true) (hg : Rg.Open o V) : Rg.Does1 Try.prog o V b w (Rc.Good F cons (Rg.alias al) V S j w) :=
  Rc.step_val x (Rg.alias_none ha V _) hg h (by rw [hF]; rfl)
theorem rc_str (l : List UInt8) {x : Operand} {A : Option Addr} {m c : Nat} (hop : o.op = .convert 22 9 x) (hx : b.eval x = .slice A m c) (hm : l.length = m) (hr : Rd w A l) (hF : F j = Rc.val (.string (strOf l))) (ha : (al.all fun x => x.1 != j) = true) (hg : Rg.Open o V) :
    Rg.Does1 Try.prog o V b w (Rc.Good F cons (Rg.alias al) V S j w) := by
  subst hm
  refine rc_mv (.string (strOf l)) ?_ hF ha hg
  have := str_any w A l c hr
  obtain ⟨dst, op, ty, pos, after, guard⟩ := o
  simp only at hop
  subst hop
  simp only [execOp, hx]
  go_simp
end
def GetOut {f : RFns} (C : RSaid f) (v vr : Value) (A1 A2 : Option Addr) (L : List UInt8) (W0 : World) (X0 : Nat → Prop) (e : Ending) (w' : World) : Prop :=
  e = .returned (.bool true) ∧ ∃ s B1 B2, Two C v vr A1 A2 L W0 X0 s s B1 B2 w'
end Go.Proofs.Ytpnnikifaalkoaa
