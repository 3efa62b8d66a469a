/-
  OWN WORK. Two readers over the same bytes: what stays while each is turned; their steps in regions that draw.
-/
import Derived.Test.YtpnnikifaalkoaaCoRd
import Derived.Test.YtpnnikifaalkoaaBaRgStr
namespace Go.Proofs.Ytpnnikifaalkoaa
open Go.RowKit Rc

structure Two {f : RFns} (C : RSaid f) (v vr : Value) (A1 A2 : Option Addr) (L : List UInt8) (W0 : World) (X0 : Nat → Prop) (s1 s2 : Co.Rs) (B1 B2 : Nat → Prop) (w : World) : Prop where
  mod : Mod W0 w X0
  rd1 : Rd W0 A1 L
  rd2 : Rd W0 A2 L
  ap1 : Apart A1 L X0
  ap2 : Apart A2 L X0
  at1 : C.At v A1 L s1 B1 w
  at2 : RefAt vr A2 L s2 B2 w
  sub1 : ∀ b, B1 b → X0 b ∨ W0.heap.size ≤ b
  sub2 : ∀ b, B2 b → X0 b ∨ W0.heap.size ≤ b
  dis : ∀ b, B1 b → ¬ B2 b
section
variable {f : RFns} {C : RSaid f} {v vr : Value} {A1 A2 : Option Addr} {L : List UInt8} {W0 : World} {X0 : Nat → Prop} {s1 s2 : Co.Rs} {B1 B2 : Nat → Prop} {w : World}
theorem apart_sub {A : Option Addr} {B : Nat → Prop} (hr : Rd W0 A L) (ha : Apart A L X0) (hs : ∀ b, B b → X0 b ∨ W0.heap.size ≤ b) : Apart A L B := fun hl b hA hB => by
  rcases hs b hB with h | h
  · exact ha hl b hA h
  · obtain ⟨b', off, rfl, hlt, _⟩ := hr hl
    simp at hA
    omega
theorem Two.r1 (h : Two C v vr A1 A2 L W0 X0 s1 s2 B1 B2 w) : Rd w A1 L := h.rd1.mod h.mod h.ap1
theorem Two.r2 (h : Two C v vr A1 A2 L W0 X0 s1 s2 B1 B2 w) : Rd w A2 L := h.rd2.mod h.mod h.ap2
theorem Two.a1 (h : Two C v vr A1 A2 L W0 X0 s1 s2 B1 B2 w) : Apart A1 L B1 := apart_sub h.rd1 h.ap1 h.sub1
theorem Two.a2 (h : Two C v vr A1 A2 L W0 X0 s1 s2 B1 B2 w) : Apart A2 L B2 := apart_sub h.rd2 h.ap2 h.sub2
theorem Two.more {w' : World} {X : Nat → Prop} (h : Mod W0 w X0) (hm : Mod w w' X) (hX : ∀ b, X b → X0 b ∨ W0.heap.size ≤ b) : Mod W0 w' X0 :=
  ⟨hm.os.trans h.os, hm.tape.trans h.tape, hm.output.trans h.output, Nat.le_trans h.size hm.size, fun k hk hn => (hm.block k (Nat.lt_of_lt_of_le hk h.size) fun hx => by
    rcases hX k hx with h1 | h1
    · exact hn h1
    · omega).trans (h.block k hk hn)⟩
theorem Two.below {w' : World} (h : Two C v vr A1 A2 L W0 X0 s1 s2 B1 B2 w) (hb : Below w.heap.size w w') : Two C v vr A1 A2 L W0 X0 s1 s2 B1 B2 w' :=
  ⟨Two.more h.mod (Mod.of_below hb (fun _ => False)) (fun _ h => h.elim), h.rd1, h.rd2, h.ap1, h.ap2, C.keep h.at1 hb.size (fun b hB => hb.block b (C.lt h.at1 b hB)), refSaid.keep h.at2 hb.size (fun b hB => hb.block b (refSaid.lt h.at2 b hB)), h.sub1, h.sub2, h.dis⟩
theorem Two.step1 {w' : World} {s : Co.Rs} {B : Nat → Prop} (h : Two C v vr A1 A2 L W0 X0 s1 s2 B1 B2 w) (ha : C.At v A1 L s B w') (hm : Mod w w' B1) (hs : ∀ b, B b → B1 b ∨ w.heap.size ≤ b) : Two C v vr A1 A2 L W0 X0 s s2 B B2 w' :=
  ⟨Two.more h.mod hm h.sub1, h.rd1, h.rd2, h.ap1, h.ap2, ha, refSaid.keep h.at2 hm.size (fun b hB => hm.block b (refSaid.lt h.at2 b hB) fun h1 => h.dis b h1 hB), fun b hB => (hs b hB).elim (h.sub1 b) (fun h1 => .inr (Nat.le_trans h.mod.size h1)), h.sub2,
    fun b hB h2 => by
      rcases hs b hB with h1 | h1
      · exact h.dis b h1 h2
      · have : b < w.heap.size := refSaid.lt h.at2 b h2
        omega⟩
theorem Two.step2 {w' : World} {s : Co.Rs} {B : Nat → Prop} (h : Two C v vr A1 A2 L W0 X0 s1 s2 B1 B2 w) (ha : RefAt vr A2 L s B w') (hm : Mod w w' B2) (hs : ∀ b, B b → B2 b ∨ w.heap.size ≤ b) : Two C v vr A1 A2 L W0 X0 s1 s B1 B w' :=
  ⟨Two.more h.mod hm h.sub2, h.rd1, h.rd2, h.ap1, h.ap2, C.keep h.at1 hm.size (fun b hB => hm.block b (C.lt h.at1 b hB) fun h1 => h.dis b hB h1), ha, h.sub1, fun b hB => (hs b hB).elim (h.sub2 b) (fun h1 => .inr (Nat.le_trans h.mod.size h1)),
    fun b h1 hB => by
      rcases hs b hB with h2 | h2
      · exact h.dis b h1 h2
      · have := C.lt h.at1 b h1
        omega⟩
end

/-- A reader, in a region that draws. -/
def RSaid.obj {f : RFns} (C : RSaid f) (v : Value) (A : Option Addr) (L : List UInt8) (s : Co.Rs) (B : Nat → Prop) : Rc.Fact :=
  ⟨fun _ w S => C.At v A L s B w ∧ S = B, fun _ w w' S h hs hb => ⟨C.keep h.1 hs (by rw [← h.2]; exact hb), h.2⟩⟩
/-- .. and what it has read. -/
def RSaid.row {f : RFns} (C : RSaid f) (v : Value) (A : Option Addr) (L : List UInt8) (r : List UInt8 × Co.Rs) : Rc.Fact :=
  ⟨fun x w S => (∃ X c, x = .slice X r.1.length c ∧ r.1.length ≤ c ∧ RowS A L r.1 X S w) ∧ ∃ S1, C.At v A L r.2 S1 w ∧ ∀ b, S1 b → S b,
   fun x w w' S h hs hb => by
    obtain ⟨⟨X, c, h1, h2, h3⟩, S1, h4, h5⟩ := h
    exact ⟨⟨X, c, h1, h2, h3.keep hs hb⟩, S1, C.keep h4 hs (fun b h => hb b (h5 b h)), h5⟩⟩
section
variable {F : Nat → Rc.Fact} {cons : List (Nat × Nat)} {E : Nat → (Nat → Value) → Value → Prop} {V : Nat → Value} {S : Nat → Nat → Prop} {j : Nat} {o : Oper} {b : Act} {w : World}
theorem step_read {f : RFns} (C : RSaid f) {v : Value} {A : Option Addr} {L : List UInt8} {s : Co.Rs} {B : Nat → Prop} {r : List UInt8 × Co.Rs} {i : Nat} {fn : FuncId} {xs : Array Operand} {ts : Array TypeId} (args : Array Value) (hent : ∀ args w, (callFunc fn args).run Try.prog w = .ok (.enter fn args) w)
    (hop : o.op = .call { callee := .value (.func fn), args := xs, argTypes := ts }) (hargs : xs.map b.eval = args) (hF : F j = C.row v A L r) (hi : (j, i) ∈ cons) (hc : ∀ k, (j, k) ∈ cons → k = i) (hu : (C.obj v A L s B).holds (V i) w (S i))
    (hE : ∀ v, E j V v) (hg : Rg.Open o V) (hcall : C.At v A L s B w → Calls Try.prog fn args w (RRow C.At v A L r B w)) : Rg.Does1 Try.prog o V b w (Rc.Good F cons E V S j w) := by
  obtain ⟨hat, hS⟩ := hu
  refine Rc.step_call args hent hop hargs hE hg ((hcall hat).mono ?_)
  rintro e w' ⟨X, c, S', T, rfl, hc2, hrow, hat', hm, hS', hT⟩
  have ht : ∀ b, B b → Taken cons S j b := fun b hb => ⟨i, hi, by rw [hS]; exact hb⟩
  refine ⟨_, fun b => S' b ∨ T b, rfl, hm.mono fun k _ hk => ht k hk, ?_, fun k hk => ?_⟩
  · rw [hF]
    exact ⟨⟨X, c, rfl, hc2, hrow.mono fun _ h => .inr h⟩, S', hat', fun _ h => .inl h⟩
  · rcases hk with hk | hk
    · exact ⟨(hS' k hk).imp (ht k) id, C.lt hat' k hk⟩
    · exact ⟨(hT k hk).1.imp (ht k) id, (hT k hk).2⟩
end
end Go.Proofs.Ytpnnikifaalkoaa
