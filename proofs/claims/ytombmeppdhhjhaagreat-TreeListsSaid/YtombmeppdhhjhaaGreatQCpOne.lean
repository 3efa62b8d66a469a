/-
  OWN WORK. One reader, of whatever form, as it is turned.
-/
import Derived.Test.YtombmeppdhhjhaaGreatQCpRd
namespace Go.Proofs.YtombmeppdhhjhaaGreat
open Go.RowKit Rc
structure One {f : RFns} (C : RSaid f) (v : Value) (A : Option Addr) (L : List UInt8) (W0 : World) (X0 : Nat → Prop) (s : Co.Rs) (B : Nat → Prop) (w : World) : Prop where
  mod : Mod W0 w X0
  rd0 : Rd W0 A L
  ap0 : Apart A L X0
  at_ : C.At v A L s B w
  sub : ∀ b, B b → X0 b ∨ W0.heap.size ≤ b
section
variable {f : RFns} {C : RSaid f} {v : Value} {A : Option Addr} {L : List UInt8} {W0 : World} {X0 : Nat → Prop} {s : Co.Rs} {B : Nat → Prop} {w : World}
theorem One.rd (h : One C v A L W0 X0 s B w) : Rd w A L := h.rd0.mod h.mod h.ap0
theorem One.ap (h : One C v A L W0 X0 s B w) : Apart A L B := fun hl b hA hB => by
  rcases h.sub b hB with h1 | h1
  · exact h.ap0 hl b hA h1
  · obtain ⟨b', off, rfl, hlt, _⟩ := h.rd0 hl
    simp at hA
    omega
theorem One.more {w' : World} {X : Nat → Prop} (h : Mod W0 w X0) (hm : Mod w w' X) (hX : ∀ b, X b → X0 b ∨ W0.heap.size ≤ b) : Mod W0 w' X0 :=
  ⟨hm.os.trans h.os, hm.tape.trans h.tape, hm.output.trans h.output, Nat.le_trans h.size hm.size, fun k hk hn => (hm.block k (Nat.lt_of_lt_of_le hk h.size) fun hx => by
    rcases hX k hx with h1 | h1
    · exact hn h1
    · omega).trans (h.block k hk hn)⟩
theorem One.below {w' : World} (h : One C v A L W0 X0 s B w) (hb : Below w.heap.size w w') : One C v A L W0 X0 s B w' :=
  ⟨One.more h.mod (Mod.of_below hb (fun _ => False)) (fun _ h => h.elim), h.rd0, h.ap0, C.keep h.at_ hb.size (fun b hB => hb.block b (C.lt h.at_ b hB)), h.sub⟩
theorem One.step {w' : World} {s' : Co.Rs} {B' : Nat → Prop} (h : One C v A L W0 X0 s B w) (ha : C.At v A L s' B' w') (hm : Mod w w' B) (hs : ∀ b, B' b → B b ∨ w.heap.size ≤ b) : One C v A L W0 X0 s' B' w' :=
  ⟨One.more h.mod hm h.sub, h.rd0, h.ap0, ha, fun b hB => (hs b hB).elim (h.sub b) (fun h1 => .inr (Nat.le_trans h.mod.size h1))⟩
def OneAt {f : RFns} (C : RSaid f) (v : Value) (A : Option Addr) (L : List UInt8) (W0 : World) (X0 : Nat → Prop) (s : Co.Rs) (w : World) : Prop := ∃ B, One C v A L W0 X0 s B w
theorem OneAt.of_out {x : Value} {s' : Co.Rs} {e : Ending} {w' : World} (h : One C v A L W0 X0 s B w) (ho : ROut C.At v A L x s' B w e w') : e = .returned x ∧ Hid (OneAt C v A L W0 X0 s' w') := by
  obtain ⟨rfl, S', ha, hm, hs⟩ := ho
  exact ⟨rfl, S', h.step ha hm hs⟩
theorem OneAt.flag {fn : FuncId} (hf : f.flag = some fn) {r : Bool} {s' : Co.Rs} (h : OneAt C v A L W0 X0 s w) (hr : Co.flag s = (r, s')) : Calls Tryz.prog fn #[v] w fun e w' => e = .returned (.bool r) ∧ Hid (OneAt C v A L W0 X0 s' w') := by
  obtain ⟨B, h⟩ := h
  refine (C.flag hf h.at_ h.rd h.ap).mono fun e w' ho => ?_
  have := OneAt.of_out h ho
  rwa [hr] at this
theorem OneAt.byte {fn : FuncId} (hf : f.byte = some fn) {r : Nat} {s' : Co.Rs} (h : OneAt C v A L W0 X0 s w) (hr : Co.num 1 s = (r, s')) : Calls Tryz.prog fn #[v] w fun e w' => e = .returned (.int .i64 (r : Nat)) ∧ Hid (OneAt C v A L W0 X0 s' w') := by
  obtain ⟨B, h⟩ := h
  refine (C.byte hf h.at_ h.rd h.ap).mono fun e w' ho => ?_
  have := OneAt.of_out h ho
  rwa [hr] at this
theorem OneAt.short {fn : FuncId} (hf : f.short = some fn) {r : Nat} {s' : Co.Rs} (h : OneAt C v A L W0 X0 s w) (hr : Co.num 2 s = (r, s')) : Calls Tryz.prog fn #[v] w fun e w' => e = .returned (.int .i64 (r : Nat)) ∧ Hid (OneAt C v A L W0 X0 s' w') := by
  obtain ⟨B, h⟩ := h
  refine (C.short hf h.at_ h.rd h.ap).mono fun e w' ho => ?_
  have := OneAt.of_out h ho
  rwa [hr] at this
theorem OneAt.long {fn : FuncId} (hf : f.long = some fn) {r : Nat} {s' : Co.Rs} (h : OneAt C v A L W0 X0 s w) (hr : Co.num 8 s = (r, s')) : Calls Tryz.prog fn #[v] w fun e w' => e = .returned (.int .u64 (r : Nat)) ∧ Hid (OneAt C v A L W0 X0 s' w') := by
  obtain ⟨B, h⟩ := h
  refine (C.long hf h.at_ h.rd h.ap).mono fun e w' ho => ?_
  have := OneAt.of_out h ho
  rwa [hr] at this
def RowOut {f : RFns} (C : RSaid f) (v : Value) (A : Option Addr) (L : List UInt8) (W0 : World) (X0 : Nat → Prop) (l : List UInt8) (s : Co.Rs) (e : Ending) (w : World) : Prop :=
  ∃ X c, e = .returned (.slice X l.length c) ∧ l.length ≤ c ∧ Hid (Rd w X l) ∧ Hid (OneAt C v A L W0 X0 s w)
theorem OneAt.of_row {l : List UInt8} {s' : Co.Rs} {r : List UInt8 × Co.Rs} {e : Ending} {w' : World} (h : One C v A L W0 X0 s B w) (ho : RRow C.At v A L r B w e w') (hr : r = (l, s')) : RowOut C v A L W0 X0 l s' e w' := by
  subst hr
  obtain ⟨X, c, S', T, rfl, hc, hrow, ha, hm, hs, ht⟩ := ho
  have h2 := h.step ha hm hs
  exact ⟨X, c, rfl, hc, hrow.now h2.rd, S', h2⟩
theorem OneAt.bytes {fn : FuncId} (hf : f.bytes = some fn) {l : List UInt8} {s' : Co.Rs} (h : OneAt C v A L W0 X0 s w) (hr : Co.bytes s = (l, s')) : Calls Tryz.prog fn #[v] w (RowOut C v A L W0 X0 l s') := by
  obtain ⟨B, h⟩ := h
  exact (C.bytes hf h.at_ h.rd h.ap).mono fun e w' ho => OneAt.of_row h ho hr
theorem OneAt.raw {fn : FuncId} (hf : f.raw = some fn) {n : Int} {l : List UInt8} {s' : Co.Rs} (h : OneAt C v A L W0 X0 s w) (h0 : -1000000 ≤ n) (h1 : n ≤ 1000000) (hr : Co.raw n s = (l, s')) : Calls Tryz.prog fn #[v, .int .i64 n] w (RowOut C v A L W0 X0 l s') := by
  obtain ⟨B, h⟩ := h
  exact (C.raw hf h.at_ h.rd h.ap n h0 h1).mono fun e w' ho => OneAt.of_row h ho hr
theorem OneAt.left {fn : FuncId} (hf : f.left = some fn) {n : Nat} (h : OneAt C v A L W0 X0 s w) (hr : Co.left s = n) : Calls Tryz.prog fn #[v] w fun e w' => e = .returned (.int .i64 (n : Nat)) ∧ Hid (OneAt C v A L W0 X0 s w') := by
  obtain ⟨B, h⟩ := h
  exact (C.left hf h.at_ h.rd h.ap).mono fun e w' ⟨he, hb⟩ => ⟨by rw [he, hr], B, h.below hb⟩
theorem OneAt.fin {fn : FuncId} (hf : f.fin = some fn) {n : Nat} (h : OneAt C v A L W0 X0 s w) (hr : Co.fin s = n) : Calls Tryz.prog fn #[v] w fun e w' => e = .returned (.int .i64 (n : Nat)) ∧ Hid (OneAt C v A L W0 X0 s w') := by
  obtain ⟨B, h⟩ := h
  exact (C.fin hf h.at_ h.rd h.ap).mono fun e w' ⟨he, hb⟩ => ⟨by rw [he, hr], B, h.below hb⟩
theorem OneAt.later {w' : World} (h : OneAt C v A L W0 X0 s w) (hb : Below w.heap.size w w') : OneAt C v A L W0 X0 s w' := by obtain ⟨B, h⟩ := h; exact ⟨B, h.below hb⟩
theorem OneAt.mod (h : OneAt C v A L W0 X0 s w) : Mod W0 w X0 := by obtain ⟨B, h⟩ := h; exact h.mod
end
def OneP {f : RFns} (C : RSaid f) (v : Value) (A : Option Addr) (L : List UInt8) (W0 : World) (s : Co.Rs) (Q : Nat → Prop) (w : World) : Prop :=
  ∃ B, One C v A L W0 (fun _ => False) s B w ∧ ∀ b, Q b → ¬ B b ∧ b < w.heap.size
section
variable {f : RFns} {C : RSaid f} {v : Value} {A : Option Addr} {L : List UInt8} {W0 : World} {s : Co.Rs} {Q : Nat → Prop} {w : World}
theorem OneP.low (h : OneP C v A L W0 s Q w) : Below W0.heap.size W0 w := by obtain ⟨B, h, _⟩ := h; exact h.mod.below fun _ hf => hf.elim
theorem OneP.below {w' : World} (h : OneP C v A L W0 s Q w) (hb : Below w.heap.size w w') : OneP C v A L W0 s Q w' := by
  obtain ⟨B, h, hQ⟩ := h
  exact ⟨B, h.below hb, fun b hb2 => ⟨(hQ b hb2).1, Nat.lt_of_lt_of_le (hQ b hb2).2 hb.size⟩⟩
theorem OneP.poke {w' : World} (h : OneP C v A L W0 s Q w) (g : Nat) (hk : Keeps w w' g) (hg : Q g) (hW : W0.heap.size ≤ g) : OneP C v A L W0 s Q w' := by
  obtain ⟨B, h, hQ⟩ := h
  refine ⟨B, ⟨⟨hk.os.trans h.mod.os, hk.tape.trans h.mod.tape, hk.output.trans h.mod.output, Nat.le_trans h.mod.size hk.size, fun k hk2 hn => (hk.block k (Nat.lt_of_lt_of_le hk2 h.mod.size) (fun e => by injection e; omega)).trans (h.mod.block k hk2 hn)⟩, h.rd0, h.ap0, C.keep h.at_ hk.size (fun b hB => hk.block b (C.lt h.at_ b hB) (fun e => by injection e with e; subst e; exact (hQ _ hg).1 hB)), h.sub⟩, fun b hb => ⟨(hQ b hb).1, Nat.lt_of_lt_of_le (hQ b hb).2 hk.size⟩⟩
def OnePOut {f : RFns} (C : RSaid f) (v : Value) (A : Option Addr) (L : List UInt8) (W0 : World) (x : Value) (s : Co.Rs) (Q : Nat → Prop) (w : World) (e : Ending) (w' : World) : Prop :=
  e = .returned x ∧ Hid (OneP C v A L W0 s Q w') ∧ Hid (∀ b, Q b → w'.heap[b]? = w.heap[b]?)
theorem OneP.of_out {B : Nat → Prop} {x : Value} {s' : Co.Rs} {e : Ending} {w' : World} (h : One C v A L W0 (fun _ => False) s B w) (hQ : ∀ b, Q b → ¬ B b ∧ b < w.heap.size) (ho : ROut C.At v A L x s' B w e w') : OnePOut C v A L W0 x s' Q w e w' := by
  obtain ⟨rfl, S', ha, hm, hs⟩ := ho
  refine ⟨rfl, ⟨S', h.step ha hm hs, fun b hb => ⟨fun hB => ?_, Nat.lt_of_lt_of_le (hQ b hb).2 hm.size⟩⟩, fun b hb => hm.block b (hQ b hb).2 (hQ b hb).1⟩
  rcases hs b hB with h1 | h1
  · exact (hQ b hb).1 h1
  · have := (hQ b hb).2
    omega
theorem OneP.byte {fn : FuncId} (hf : f.byte = some fn) {r : Nat} {s' : Co.Rs} (h : OneP C v A L W0 s Q w) (hr : Co.num 1 s = (r, s')) : Calls Tryz.prog fn #[v] w (OnePOut C v A L W0 (.int .i64 (r : Nat)) s' Q w) := by
  obtain ⟨B, h, hQ⟩ := h
  refine (C.byte hf h.at_ h.rd h.ap).mono fun e w' ho => ?_
  have := OneP.of_out h hQ ho
  rwa [hr] at this
theorem OneP.short {fn : FuncId} (hf : f.short = some fn) {r : Nat} {s' : Co.Rs} (h : OneP C v A L W0 s Q w) (hr : Co.num 2 s = (r, s')) : Calls Tryz.prog fn #[v] w (OnePOut C v A L W0 (.int .i64 (r : Nat)) s' Q w) := by
  obtain ⟨B, h, hQ⟩ := h
  refine (C.short hf h.at_ h.rd h.ap).mono fun e w' ho => ?_
  have := OneP.of_out h hQ ho
  rwa [hr] at this
theorem OneP.long {fn : FuncId} (hf : f.long = some fn) {r : Nat} {s' : Co.Rs} (h : OneP C v A L W0 s Q w) (hr : Co.num 8 s = (r, s')) : Calls Tryz.prog fn #[v] w (OnePOut C v A L W0 (.int .u64 (r : Nat)) s' Q w) := by
  obtain ⟨B, h, hQ⟩ := h
  refine (C.long hf h.at_ h.rd h.ap).mono fun e w' ho => ?_
  have := OneP.of_out h hQ ho
  rwa [hr] at this
theorem OneP.flag {fn : FuncId} (hf : f.flag = some fn) {r : Bool} {s' : Co.Rs} (h : OneP C v A L W0 s Q w) (hr : Co.flag s = (r, s')) : Calls Tryz.prog fn #[v] w (OnePOut C v A L W0 (.bool r) s' Q w) := by
  obtain ⟨B, h, hQ⟩ := h
  refine (C.flag hf h.at_ h.rd h.ap).mono fun e w' ho => ?_
  have := OneP.of_out h hQ ho
  rwa [hr] at this
theorem OneP.fin {fn : FuncId} (hf : f.fin = some fn) {n : Nat} (h : OneP C v A L W0 s Q w) (hr : Co.fin s = n) : Calls Tryz.prog fn #[v] w fun e w' => e = .returned (.int .i64 (n : Nat)) ∧ Hid (Below w.heap.size w w') := by
  obtain ⟨B, h, hQ⟩ := h
  exact (C.fin hf h.at_ h.rd h.ap).mono fun e w' ⟨he, hb⟩ => ⟨by rw [he, hr], hb⟩
def OnePRow {f : RFns} (C : RSaid f) (v : Value) (A : Option Addr) (L : List UInt8) (W0 : World) (l : List UInt8) (s : Co.Rs) (Q : Nat → Prop) (w : World) (e : Ending) (w' : World) : Prop :=
  ∃ X c, e = .returned (.slice X l.length c) ∧ l.length ≤ c ∧ Hid (Rd w' X l) ∧ Hid (OneP C v A L W0 s Q w') ∧ Hid (∀ b, Q b → w'.heap[b]? = w.heap[b]?)
theorem OneP.of_row {B : Nat → Prop} {l : List UInt8} {s' : Co.Rs} {r : List UInt8 × Co.Rs} {e : Ending} {w' : World} (h : One C v A L W0 (fun _ => False) s B w) (hQ : ∀ b, Q b → ¬ B b ∧ b < w.heap.size) (ho : RRow C.At v A L r B w e w') (hr : r = (l, s')) : OnePRow C v A L W0 l s' Q w e w' := by
  subst hr
  obtain ⟨X, c, S', T, rfl, hc, hrow, ha, hm, hs, ht⟩ := ho
  have h2 := h.step ha hm hs
  refine ⟨X, c, rfl, hc, hrow.now h2.rd, ⟨S', h2, fun b hb => ⟨fun hB => ?_, Nat.lt_of_lt_of_le (hQ b hb).2 hm.size⟩⟩, fun b hb => hm.block b (hQ b hb).2 (hQ b hb).1⟩
  rcases hs b hB with h1 | h1
  · exact (hQ b hb).1 h1
  · have := (hQ b hb).2
    omega
theorem OneP.bytes {fn : FuncId} (hf : f.bytes = some fn) {l : List UInt8} {s' : Co.Rs} (h : OneP C v A L W0 s Q w) (hr : Co.bytes s = (l, s')) : Calls Tryz.prog fn #[v] w (OnePRow C v A L W0 l s' Q w) := by
  obtain ⟨B, h, hQ⟩ := h
  exact (C.bytes hf h.at_ h.rd h.ap).mono fun e w' ho => OneP.of_row h hQ ho hr
end
end Go.Proofs.YtombmeppdhhjhaaGreat
