/-
  OWN WORK. One reader in regions that draw: its calls follow each other, each turns it.
-/
import Derived.Test.YtpnnikifaalkoaaCoWr
namespace Go.Proofs.Ytpnnikifaalkoaa
open Go.RowKit Rc

/-- A reader's blocks: those that it had, and new ones. -/
def Ups (B : Nat → Prop) (w0 : World) : Nat → Prop := fun b => B b ∨ w0.heap.size ≤ b
theorem apart_ups {A : Option Addr} {L : List UInt8} {B : Nat → Prop} {w0 : World} (hr : Rd w0 A L) (ha : Apart A L B) {S : Nat → Prop} (hS : ∀ b, S b → Ups B w0 b) : Apart A L S := fun hl b hA hB => by
  rcases hS b hB with h1 | h1
  · exact ha hl b hA h1
  · obtain ⟨b', off, rfl, hlt, _⟩ := hr hl
    simp at hA
    omega
/-- A value, and the reader behind it. -/
def RSaid.nrow {f : RFns} (C : RSaid f) (v : Value) (A : Option Addr) (L : List UInt8) (P : Nat → Prop) (x : Value) (s : Co.Rs) : Rc.Fact :=
  ⟨fun y w S => y = x ∧ ∃ S1, C.At v A L s S1 w ∧ (∀ b, S1 b → S b) ∧ ∀ b, S1 b → P b,
   fun y w w' S h hs hb => by
    obtain ⟨h1, S1, h2, h3, h4⟩ := h
    exact ⟨h1, S1, C.keep h2 hs (fun b h => hb b (h3 b h)), h3, h4⟩⟩
/-- A row that was read, and the reader behind it. -/
def RSaid.prow {f : RFns} (C : RSaid f) (v : Value) (A : Option Addr) (L : List UInt8) (P : Nat → Prop) (l : List UInt8) (s : Co.Rs) : Rc.Fact :=
  ⟨fun y w S => (∃ X c, y = .slice X l.length c ∧ l.length ≤ c ∧ RowS A L l X S w) ∧ ∃ S1, C.At v A L s S1 w ∧ (∀ b, S1 b → S b) ∧ ∀ b, S1 b → P b,
   fun y w w' S h hs hb => by
    obtain ⟨⟨X, c, h1, h2, h3⟩, S1, h4, h5, h6⟩ := h
    exact ⟨⟨X, c, h1, h2, h3.keep hs hb⟩, S1, C.keep h4 hs (fun b h => hb b (h5 b h)), h5, h6⟩⟩
section
variable {F : Nat → Rc.Fact} {cons : List (Nat × Nat)} {E : Nat → (Nat → Value) → Value → Prop} {V : Nat → Value} {S : Nat → Nat → Prop} {j : Nat} {o : Oper} {b : Act} {w w0 : World} {B : Nat → Prop}
theorem step_rnum {f : RFns} (C : RSaid f) {v x : Value} {A : Option Addr} {L : List UInt8} {s s' : Co.Rs} {i : Nat} {fn : FuncId} {xs : Array Operand} {ts : Array TypeId} (args : Array Value) (hent : ∀ args w, (callFunc fn args).run Try.prog w = .ok (.enter fn args) w)
    (hop : o.op = .call { callee := .value (.func fn), args := xs, argTypes := ts }) (hargs : xs.map b.eval = args) (hF : F j = C.nrow v A L (Ups B w0) x s') (hi : (j, i) ∈ cons) (hu : ∃ S1, C.At v A L s S1 w ∧ (∀ b, S1 b → S i b) ∧ ∀ b, S1 b → Ups B w0 b)
    (hE : ∀ v, E j V v) (hg : Rg.Open o V) (hw : w0.heap.size ≤ w.heap.size) (hr0 : Rd w0 A L) (ha0 : Apart A L B) (hr : Rd w A L) (hcall : ∀ S1, C.At v A L s S1 w → Rd w A L → Apart A L S1 → Calls Try.prog fn args w (ROut C.At v A L x s' S1 w)) : Rg.Does1 Try.prog o V b w (Rc.Good F cons E V S j w) := by
  obtain ⟨S1, hat, hsub, hup⟩ := hu
  refine Rc.step_call args hent hop hargs hE hg ((hcall S1 hat hr (apart_ups hr0 ha0 hup)).mono ?_)
  rintro e w' ⟨rfl, S', hat', hm, hS'⟩
  have ht : ∀ b, S1 b → Taken cons S j b := fun b hb => ⟨i, hi, hsub b hb⟩
  refine ⟨_, S', rfl, hm.mono fun k _ hk => ht k hk, ?_, fun k hk => ⟨(hS' k hk).imp (ht k) id, C.lt hat' k hk⟩⟩
  rw [hF]
  exact ⟨rfl, S', hat', fun _ h => h, fun b hb => (hS' b hb).elim (hup b) (fun h => .inr (Nat.le_trans hw h))⟩
theorem step_rrow {f : RFns} (C : RSaid f) {v : Value} {A : Option Addr} {L l : List UInt8} {s s' : Co.Rs} {i : Nat} {fn : FuncId} {xs : Array Operand} {ts : Array TypeId} (args : Array Value) (hent : ∀ args w, (callFunc fn args).run Try.prog w = .ok (.enter fn args) w)
    (hop : o.op = .call { callee := .value (.func fn), args := xs, argTypes := ts }) (hargs : xs.map b.eval = args) (hF : F j = C.prow v A L (Ups B w0) l s') (hi : (j, i) ∈ cons) (hu : ∃ S1, C.At v A L s S1 w ∧ (∀ b, S1 b → S i b) ∧ ∀ b, S1 b → Ups B w0 b)
    (hE : ∀ v, E j V v) (hg : Rg.Open o V) (hw : w0.heap.size ≤ w.heap.size) (hr0 : Rd w0 A L) (ha0 : Apart A L B) (hr : Rd w A L) (hcall : ∀ S1, C.At v A L s S1 w → Rd w A L → Apart A L S1 → Calls Try.prog fn args w (RRow C.At v A L (l, s') S1 w)) : Rg.Does1 Try.prog o V b w (Rc.Good F cons E V S j w) := by
  obtain ⟨S1, hat, hsub, hup⟩ := hu
  refine Rc.step_call args hent hop hargs hE hg ((hcall S1 hat hr (apart_ups hr0 ha0 hup)).mono ?_)
  rintro e w' ⟨X, c, S', T, rfl, hc2, hrow, hat', hm, hS', hT⟩
  have ht : ∀ b, S1 b → Taken cons S j b := fun b hb => ⟨i, hi, hsub b hb⟩
  refine ⟨_, fun b => S' b ∨ T b, rfl, hm.mono fun k _ hk => ht k hk, ?_, fun k hk => ?_⟩
  · rw [hF]
    exact ⟨⟨X, c, rfl, hc2, hrow.mono fun _ h => .inr h⟩, S', hat', fun _ h => .inl h, fun b hb => (hS' b hb).elim (hup b) (fun h => .inr (Nat.le_trans hw h))⟩
  · rcases hk with hk | hk
    · exact ⟨(hS' k hk).imp (ht k) id, C.lt hat' k hk⟩
    · exact ⟨(hT k hk).1.imp (ht k) id, (hT k hk).2⟩
/-- A call that leaves the world as it is. -/
theorem step_pcall (x : Value) {fn : FuncId} {xs : Array Operand} {ts : Array TypeId} (args : Array Value) (hent : ∀ args w, (callFunc fn args).run Try.prog w = .ok (.enter fn args) w)
    (hop : o.op = .call { callee := .value (.func fn), args := xs, argTypes := ts }) (hargs : xs.map b.eval = args) (hF : F j = Rc.val x) (hE : ∀ v, E j V v) (hg : Rg.Open o V) (hcall : Calls Try.prog fn args w fun e w' => e = .returned x ∧ w = w') : Rg.Does1 Try.prog o V b w (Rc.Good F cons E V S j w) := by
  refine Rc.step_call args hent hop hargs hE hg (hcall.mono ?_)
  rintro e w' ⟨rfl, rfl⟩
  exact ⟨x, fun _ => False, rfl, Mod.refl _ _, by rw [hF]; rfl, fun _ h => h.elim⟩
end
theorem one_inv {f : RFns} (C : RSaid f) {v : Value} {A : Option Addr} {L : List UInt8} {s : Co.Rs} {B : Nat → Prop} {w : World} (h : C.At v A L s B w) (F : Nat → Rc.Fact) (cons : List (Nat × Nat)) (n : Nat) (hF : F n = C.nrow v A L (Ups B w) undef s) :
    Rc.Inv F cons (Rg.alias []) w.drew B (fun i => n ≤ i ∧ i < n + 1) (fun _ => undef) (fun _ b => B b) w.drew := by
  refine ⟨Mod.refl _ _, fun i hi => ?_, fun i b hi hb => ⟨C.lt h b hb, .inl hb⟩, fun i k b hi hk hne _ => ?_, fun j _ => fun i f hm => by simp at hm⟩
  · obtain rfl : i = n := by have := hi.1; omega
    rw [hF]; exact ⟨rfl, B, C.keep h (Nat.le_refl _) (fun _ _ => rfl), fun _ h => h, fun _ h => .inl h⟩
  · have := hi.1; have := hk.1; omega
theorem One.after {f : RFns} {C : RSaid f} {v : Value} {A : Option Addr} {L : List UInt8} {W0 : World} {X0 : Nat → Prop} {s s' : Co.Rs} {B : Nat → Prop} {w w2 : World} (h : One C v A L W0 X0 s B w) (hm : Mod w w2 B) {S : Nat → Prop} (hu : ∃ S1, C.At v A L s' S1 w2 ∧ (∀ b, S1 b → S b) ∧ ∀ b, S1 b → Ups B w b) : OneAt C v A L W0 X0 s' w2 := by
  obtain ⟨S1, hat, _, hup⟩ := hu
  exact ⟨S1, h.step hat hm hup⟩
theorem One.low2 {f : RFns} {C : RSaid f} {v : Value} {A : Option Addr} {L : List UInt8} {W0 : World} {s : Co.Rs} {B : Nat → Prop} {w w2 : World} (h : One C v A L W0 (fun _ => False) s B w) (hm : Mod w w2 B) : Below W0.heap.size W0 w2 := (One.more h.mod hm h.sub).below fun _ h => h.elim
end Go.Proofs.Ytpnnikifaalkoaa
