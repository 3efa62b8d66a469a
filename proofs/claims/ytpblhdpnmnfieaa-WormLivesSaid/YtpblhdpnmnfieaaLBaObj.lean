/-
  OWN WORK. Objects of whatever form: what stays while one is turned; rows that are kept beside it; its calls in regions that draw.
-/
import Derived.Test.YtpblhdpnmnfieaaLBaRgStr
import Derived.Test.YtpblhdpnmnfieaaLRc
namespace Go.Proofs.Ytpblhdpnmnfieaa
open Go.RowKit Rc
namespace Ob

/-- An object: a value, what it is, and the blocks that it stands on. -/
structure Obj (σ : Type) where
  At : Value → σ → (Nat → Prop) → World → Prop
  keep : ∀ {v s S w w'}, At v s S w → w.heap.size ≤ w'.heap.size → (∀ b, S b → w'.heap[b]? = w.heap[b]?) → At v s S w'
  lt : ∀ {v s S w}, At v s S w → ∀ b, S b → b < w.heap.size
  ptr : ∀ {v s S w}, At v s S w → ∃ a, v = .pointer (some a)
/-- A call that turns it. -/
def Turns {σ : Type} (O : Obj σ) (v : Value) (s' : σ) (x : Value) (S : Nat → Prop) (w : World) (e : Ending) (w' : World) : Prop :=
  e = .returned x ∧ ∃ S', O.At v s' S' w' ∧ Mod w w' S ∧ ∀ b, S' b → S b ∨ w.heap.size ≤ b
/-- A row of bytes, apart from these blocks. -/
def Kept (W : World) (X : Nat → Prop) (A : Option Addr) (l : List UInt8) : Prop := Rd W A l ∧ (0 < l.length → ∀ b, A.map (·.block) = some b → ¬ X b)
/-- A row of bytes of a call's own: it may be written. -/
def Fresh (l : List UInt8) (w : World) (x : Value) (w' : World) : Prop := w'.ownsRow w.heap.size 5 1 x l.length (Lib.byteCells l)
theorem Fresh.form {l : List UInt8} {w : World} {x : Value} {w' : World} (h : Fresh l w x w') : ∃ X c, x = .slice X l.length c ∧ l.length ≤ c ∧ Rd w' X l ∧ (∀ b, X.map (·.block) = some b → w.heap.size ≤ b ∧ b < w'.heap.size) := by
  have h0 := own_base h
  rcases h.2 with ⟨rfl, h1⟩ | ⟨g, cap, cur, rfl, hb, hh, _⟩
  · have : l = [] := List.eq_nil_of_length_eq_zero (by omega)
    subst this
    exact ⟨none, 0, rfl, Nat.le_refl _, Rd.nil _ _, fun b hb => by simp at hb⟩
  · obtain ⟨X, c, e, hc, hr⟩ := bRow_form (show (bRow l).holds _ w' from h0)
    injection e with e1 e2 e3
    subst e1 e3
    refine ⟨_, _, rfl, hc, hr, fun b hb2 => ?_⟩
    simp only [Option.map_some, Option.some.injEq] at hb2
    subst hb2
    exact ⟨hb, (Array.getElem?_eq_some_iff.1 hh).1⟩
theorem Fresh.of_own {w w' : World} {l : List UInt8} {x : Value} {n : Nat} (h : w'.ownsRow w.heap.size 5 1 x n (Lib.byteCells l)) (hn : l.length = n) : Fresh l w x w' := by
  subst hn; exact h
theorem rd_mod {w w' : World} {A : Option Addr} {l : List UInt8} {S : Nat → Prop} (h : Rd w A l) (hm : Mod w w' S) (hA : 0 < l.length → ∀ b, A.map (·.block) = some b → ¬ S b) : Rd w' A l := by
  intro hl
  exact h.keep (fun p hp hb => by unfold World.cell?; rw [hm.block p.block hp (hA hl _ hb)]) hm.size hl
theorem rd_lt {w : World} {A : Option Addr} {l : List UInt8} (h : Rd w A l) (hl : 0 < l.length) {b : Nat} (hb : A.map (·.block) = some b) : b < w.heap.size := by
  obtain ⟨b', off, rfl, hlt, _⟩ := h hl
  simp at hb
  omega
theorem own_mod {w w' : World} {B n : Nat} {v : Value} {xs : List Value} {S : Nat → Prop} (h : w.ownsRow B 5 1 v n xs) (hm : Mod w w' S) (hv : ∀ b, v.ownBlock = some b → ¬ S b) : w'.ownsRow B 5 1 v n xs := by
  refine ⟨h.1, ?_⟩
  rcases h.2 with h2 | ⟨g, cap, cur, rfl, h4, h5, h6⟩
  · exact .inl h2
  · exact .inr ⟨g, cap, cur, rfl, h4, (hm.block g (Array.getElem?_eq_some_iff.1 h5).1 (hv g rfl)).trans h5, h6⟩
theorem str_run (w : World) (A : Option Addr) (l : List UInt8) (cap : Nat) (hr : Rd w A l) : (convert 60 9 (.slice A l.length cap)).run Try.prog w = .ok (.string (strOf l)) w := str_any w A l cap hr
/-- An object made behind a world w0, seen from W0. -/
structure One {σ : Type} (O : Obj σ) (v : Value) (w0 W0 : World) (X0 : Nat → Prop) (s : σ) (B : Nat → Prop) (w : World) : Prop where
  at_ : O.At v s B w
  mod : Mod W0 w X0
  sub : ∀ b, B b → X0 b ∨ W0.heap.size ≤ b
  low : Below w0.heap.size w0 w
  up : ∀ b, B b → w0.heap.size ≤ b
def Own {σ : Type} (O : Obj σ) (v : Value) (w0 W0 : World) (X0 : Nat → Prop) (s : σ) (w : World) : Prop := ∃ B, One O v w0 W0 X0 s B w
section
variable {σ : Type} {O : Obj σ} {v : Value} {w0 W0 : World} {X0 B : Nat → Prop} {s s' : σ} {w w' : World}
theorem mod_more {X : Nat → Prop} (h : Mod W0 w X0) (hm : Mod w w' X) (hX : ∀ b, X b → X0 b ∨ W0.heap.size ≤ b) : Mod W0 w' X0 :=
  ⟨hm.os.trans h.os, hm.tape.trans h.tape, hm.output.trans h.output, Nat.le_trans h.size hm.size, fun k hk hn => (hm.block k (Nat.lt_of_lt_of_le hk h.size) fun hx => by
    rcases hX k hx with h1 | h1
    · exact hn h1
    · omega).trans (h.block k hk hn)⟩
theorem low_more {X : Nat → Prop} (h : Below w0.heap.size w0 w) (hm : Mod w w' X) (hX : ∀ b, X b → w0.heap.size ≤ b) : Below w0.heap.size w0 w' := ((Mod.of_below h X).trans hm).below hX
theorem One.turn {S' : Nat → Prop} (h : One O v w0 W0 X0 s B w) (ha : O.At v s' S' w') (hm : Mod w w' B) (hs : ∀ b, S' b → B b ∨ w.heap.size ≤ b) : One O v w0 W0 X0 s' S' w' :=
  ⟨ha, mod_more h.mod hm h.sub, fun b hB => (hs b hB).elim (h.sub b) (fun h1 => .inr (Nat.le_trans h.mod.size h1)), low_more h.low hm h.up, fun b hB => (hs b hB).elim (h.up b) (fun h1 => Nat.le_trans h.low.size h1)⟩
theorem One.later (h : One O v w0 W0 X0 s B w) (hb : Below w.heap.size w w') : One O v w0 W0 X0 s B w' :=
  ⟨O.keep h.at_ hb.size (fun b hB => hb.block b (O.lt h.at_ b hB)), mod_more h.mod (Mod.of_below hb (fun _ => False)) (fun _ h => h.elim), h.sub, h.low.trans (hb.mono h.low.size), h.up⟩
/-- Seen from now. -/
theorem One.now (h : One O v w0 W0 X0 s B w) : One O v w0 w B s B w := ⟨h.at_, Mod.refl _ _, fun _ h => .inl h, h.low, h.up⟩
theorem One.kept (h : One O v w0 W0 X0 s B w) {A : Option Addr} {l : List UInt8} (k : Kept W0 X0 A l) : Kept w B A l :=
  ⟨rd_mod k.1 h.mod k.2, fun hl b hA hB => by
    rcases h.sub b hB with h1 | h1
    · exact k.2 hl b hA h1
    · have := rd_lt k.1 hl hA
      omega⟩
/-- A row that lay there before the object was made. -/
theorem One.arg (h : One O v w0 W0 X0 s B w) {A : Option Addr} {l : List UInt8} (k : Rd w0 A l) : Kept w B A l :=
  ⟨k.below h.low, fun hl b hA hB => by
    have := rd_lt k hl hA
    have := h.up b hB
    omega⟩
/-- A row made since. -/
theorem One.fresh (h : One O v w0 W0 X0 s B w) (_hb : Below w.heap.size w w') {l : List UInt8} {x : Value} (hf : Fresh l w x w') : ∃ X c, x = .slice X l.length c ∧ l.length ≤ c ∧ Kept w' B X l := by
  obtain ⟨X, c, rfl, hc, hr, hX⟩ := hf.form
  exact ⟨X, c, rfl, hc, hr, fun _ b hA hB => by
    have := (hX b hA).1
    have := O.lt h.at_ b hB
    omega⟩
theorem Kept.more {A : Option Addr} {l : List UInt8} (k : Kept w B A l) (hb : Below w.heap.size w w') : Kept w' B A l := ⟨k.1.below hb, k.2⟩
/-- A byte of a row beside it is written. -/
theorem One.poke (h : One O v w0 W0 X0 s B w) (hm : Mod w w' (fun k => ¬ B k ∧ w0.heap.size ≤ k)) : One O v w0 w' B s B w' :=
  ⟨O.keep h.at_ hm.size (fun b hB => hm.block b (O.lt h.at_ b hB) (fun hx => hx.1 hB)), Mod.refl _ _, fun _ h => .inl h, low_more h.low hm (fun _ hk => hk.2), h.up⟩
theorem One.own (h : One O v w0 W0 X0 s B w) : Own O v w0 W0 X0 s w := ⟨B, h⟩
end

/-- An object's blocks: those that it had, and new ones. -/
def Ups (B : Nat → Prop) (w0 : World) : Nat → Prop := fun b => B b ∨ w0.heap.size ≤ b
/-- A value, and the object behind it. -/
def turned {σ : Type} (O : Obj σ) (v : Value) (P : Nat → Prop) (x : Value) (s : σ) : Rc.Fact :=
  ⟨fun y w S => y = x ∧ ∃ S1, O.At v s S1 w ∧ (∀ b, S1 b → S b) ∧ ∀ b, S1 b → P b,
   fun y w w' S h hs hb => by
    obtain ⟨h1, S1, h2, h3, h4⟩ := h
    exact ⟨h1, S1, O.keep h2 hs (fun b h => hb b (h3 b h)), h3, h4⟩⟩
/-- A row of the call's own. -/
def frow (l : List UInt8) : Rc.Fact :=
  ⟨fun x w S => ∃ X c, x = .slice X l.length c ∧ l.length ≤ c ∧ Rd w X l ∧ ∀ b, X.map (·.block) = some b → S b,
   fun x w w' S h hs hb => by
    obtain ⟨X, c, h1, h2, h3, h4⟩ := h
    exact ⟨X, c, h1, h2, h3.keep (fun p hp hA => by unfold World.cell?; rw [hb p.block (h4 _ hA)]) hs, h4⟩⟩
section
variable {σ : Type} {F : Nat → Rc.Fact} {cons : List (Nat × Nat)} {E : Nat → (Nat → Value) → Value → Prop} {V : Nat → Value} {S : Nat → Nat → Prop} {j : Nat} {o : Oper} {b : Act} {w w0 : World} {B : Nat → Prop}
theorem step_turn (O : Obj σ) {v x : Value} {s s' : σ} {i : Nat} {fn : FuncId} {xs : Array Operand} {ts : Array TypeId} (args : Array Value) (hent : ∀ args w, (callFunc fn args).run Try.prog w = .ok (.enter fn args) w)
    (hop : o.op = .call { callee := .value (.func fn), args := xs, argTypes := ts }) (hargs : xs.map b.eval = args) (hF : F j = turned O v (Ups B w0) x s') (hi : (j, i) ∈ cons) (hu : ∃ S1, O.At v s S1 w ∧ (∀ b, S1 b → S i b) ∧ ∀ b, S1 b → Ups B w0 b)
    (hE : ∀ v, E j V v) (hg : Rg.Open o V) (hw : w0.heap.size ≤ w.heap.size) (hcall : ∀ S1, O.At v s S1 w → (∀ b, S1 b → S i b) → (∀ b, S1 b → Ups B w0 b) → Calls Try.prog fn args w (Turns O v s' x S1 w)) : Rg.Does1 Try.prog o V b w (Rc.Good F cons E V S j w) := by
  obtain ⟨S1, hat, hsub, hup⟩ := hu
  refine Rc.step_call args hent hop hargs hE hg ((hcall S1 hat hsub hup).mono ?_)
  rintro e w' ⟨rfl, S', hat', hm, hS'⟩
  have ht : ∀ b, S1 b → Taken cons S j b := fun b hb => ⟨i, hi, hsub b hb⟩
  refine ⟨_, S', rfl, hm.mono fun k _ hk => ht k hk, ?_, fun k hk => ⟨(hS' k hk).imp (ht k) id, O.lt hat' k hk⟩⟩
  rw [hF]
  exact ⟨rfl, S', hat', fun _ h => h, fun b hb => (hS' b hb).elim (hup b) (fun h => .inr (Nat.le_trans hw h))⟩
/-- A call that makes a row of its own. -/
theorem step_frow (l : List UInt8) {fn : FuncId} {xs : Array Operand} {ts : Array TypeId} (args : Array Value) (hent : ∀ args w, (callFunc fn args).run Try.prog w = .ok (.enter fn args) w)
    (hop : o.op = .call { callee := .value (.func fn), args := xs, argTypes := ts }) (hargs : xs.map b.eval = args) (hF : F j = frow l) (hE : ∀ v, E j V v) (hg : Rg.Open o V)
    (hcall : Calls Try.prog fn args w fun e w' => ∃ x, e = .returned x ∧ Fresh l w x w' ∧ Below w.heap.size w w') : Rg.Does1 Try.prog o V b w (Rc.Good F cons E V S j w) := by
  refine Rc.step_call args hent hop hargs hE hg (hcall.mono ?_)
  rintro e w' ⟨x, rfl, hf, hb⟩
  obtain ⟨X, c, rfl, hc, hr, hX⟩ := hf.form
  refine ⟨_, fun k => X.map (·.block) = some k, rfl, Mod.of_below hb _, ?_, fun k hk => ⟨.inr (hX k hk).1, (hX k hk).2⟩⟩
  rw [hF]; exact ⟨X, c, rfl, hc, hr, fun _ h => h⟩
/-- A call that tells a value, and makes at most memory that nobody has. -/
theorem step_tell (x : Value) {fn : FuncId} {xs : Array Operand} {ts : Array TypeId} (args : Array Value) (hent : ∀ args w, (callFunc fn args).run Try.prog w = .ok (.enter fn args) w)
    (hop : o.op = .call { callee := .value (.func fn), args := xs, argTypes := ts }) (hargs : xs.map b.eval = args) (hF : F j = Rc.val x) (hE : ∀ v, E j V v) (hg : Rg.Open o V) (hcall : Calls Try.prog fn args w fun e w' => e = .returned x ∧ Below w.heap.size w w') : Rg.Does1 Try.prog o V b w (Rc.Good F cons E V S j w) := by
  refine Rc.step_call args hent hop hargs hE hg (hcall.mono ?_)
  rintro e w' ⟨rfl, hb⟩
  exact ⟨x, fun _ => False, rfl, Mod.of_below hb _, by rw [hF]; rfl, fun _ h => h.elim⟩
/-- A row of noughts that is made. -/
theorem make_row (w : World) (n : Nat) (hn : n ≤ 1000000) : ∃ w' z, (Instr.makeSlice 60 (.int .i64 (n : Int)) (.int .i64 (n : Int))).run Try.prog w = .ok (.slice (some ⟨w.heap.size, 0, none⟩) n n) w' ∧ Below w.heap.size w w' ∧ z = List.replicate n 0 ∧ Rd w' (some ⟨w.heap.size, 0, none⟩) z ∧ w.heap.size < w'.heap.size := by
  obtain ⟨i0, hi, hz0, hz1, hz2⟩ := info_parts Try.infoU8
  obtain ⟨w5, hrun, r1, r2⟩ := run_make_full (P := Try.prog) w w.heap.size 60 5 i0 (.int .u8 0) 1 Try.underlying60 hi hz0 hz1 .i64 .i64 n (by rw [hz2]; omega) (by unfold maxLen; omega) (Nat.le_refl _)
  rw [made_bytes] at r1
  have hl := own_lt r1 rfl
  obtain ⟨z, hz⟩ : ∃ z : List UInt8, z = List.replicate n 0 := ⟨_, rfl⟩
  have hzl : z.length = n := by rw [hz, List.length_replicate]
  rw [← hz] at r1
  obtain ⟨X', c', e, _, hr⟩ := bRow_form (v := .slice (some ⟨w.heap.size, 0, none⟩) n n) (l := z) (show _ by rw [← hzl] at r1; show w5.ownsRow 0 _ 1 _ z.length _; rw [hzl]; rw [hzl] at r1; exact own_base r1)
  injection e with e1
  subst e1
  exact ⟨w5, z, hrun, (Below.refl _ _).grown r2 (Nat.le_refl _) (fun k hk => by cases hk), hz, hr, hl.2⟩
/-- A slice of which the length alone is known. -/
def slen (n : Nat) : Rc.Fact := ⟨fun x _ _ => ∃ X c, x = .slice X n c, fun _ _ _ _ h _ _ => h⟩
theorem step_slen (n : Nat) {fn : FuncId} {xs : Array Operand} {ts : Array TypeId} (args : Array Value) (hent : ∀ args w, (callFunc fn args).run Try.prog w = .ok (.enter fn args) w)
    (hop : o.op = .call { callee := .value (.func fn), args := xs, argTypes := ts }) (hargs : xs.map b.eval = args) (hF : F j = slen n) (hE : ∀ v, E j V v) (hg : Rg.Open o V) (hcall : Calls Try.prog fn args w fun e w' => ∃ X c, e = .returned (.slice X n c) ∧ Below w.heap.size w w') : Rg.Does1 Try.prog o V b w (Rc.Good F cons E V S j w) := by
  refine Rc.step_call args hent hop hargs hE hg (hcall.mono ?_)
  rintro e w' ⟨X, c, rfl, hb⟩
  exact ⟨_, fun _ => False, rfl, Mod.of_below hb _, by rw [hF]; exact ⟨X, c, rfl⟩, fun _ h => h.elim⟩
theorem rc_mv (x : Value) {al : List (Nat × Nat × (Value → Value))} (h : (execOp b.eval o).run Try.prog w = .ok (.value x) w) (hF : F j = Rc.val x) (ha : (al.all fun x => x.1 != j) = true) (hg : Rg.Open o V) : Rg.Does1 Try.prog o V b w (Rc.Good F cons (Rg.alias al) V S j w) :=
  Rc.step_val x (Rg.alias_none ha V _) hg h (by rw [hF]; rfl)
theorem rc_slh {al : List (Nat × Nat × (Value → Value))} {t : TypeId} {x y : Operand} {X Y v : Value} (hop : o.op = .slice t x none (some y) none) (hx : b.eval x = X) (hy : b.eval y = Y) (h : (Instr.sliceAt t X none (some Y) none).run Try.prog w = .ok v w) (hF : F j = Rc.val v) (ha : (al.all fun x => x.1 != j) = true) (hg : Rg.Open o V) :
    Rg.Does1 Try.prog o V b w (Rc.Good F cons (Rg.alias al) V S j w) := by
  refine rc_mv v ?_ hF ha hg
  obtain ⟨dst, op, ty, pos, after, guard⟩ := o
  simp only at hop
  subst hop
  simp only [execOp, Option.map_some, Option.map_none, hx, hy]
  simp [h, Result.andThen]
theorem rc_sll {al : List (Nat × Nat × (Value → Value))} {t : TypeId} {x y : Operand} {X Y v : Value} (hop : o.op = .slice t x (some y) none none) (hx : b.eval x = X) (hy : b.eval y = Y) (h : (Instr.sliceAt t X (some Y) none none).run Try.prog w = .ok v w) (hF : F j = Rc.val v) (ha : (al.all fun x => x.1 != j) = true) (hg : Rg.Open o V) :
    Rg.Does1 Try.prog o V b w (Rc.Good F cons (Rg.alias al) V S j w) := by
  refine rc_mv v ?_ hF ha hg
  obtain ⟨dst, op, ty, pos, after, guard⟩ := o
  simp only at hop
  subst hop
  simp only [execOp, Option.map_some, Option.map_none, hx, hy]
  simp [h, Result.andThen]
theorem rc_sllh {al : List (Nat × Nat × (Value → Value))} {t : TypeId} {x y z : Operand} {X Y Z v : Value} (hop : o.op = .slice t x (some y) (some z) none) (hx : b.eval x = X) (hy : b.eval y = Y) (hz : b.eval z = Z) (h : (Instr.sliceAt t X (some Y) (some Z) none).run Try.prog w = .ok v w) (hF : F j = Rc.val v) (ha : (al.all fun x => x.1 != j) = true) (hg : Rg.Open o V) :
    Rg.Does1 Try.prog o V b w (Rc.Good F cons (Rg.alias al) V S j w) := by
  refine rc_mv v ?_ hF ha hg
  obtain ⟨dst, op, ty, pos, after, guard⟩ := o
  simp only at hop
  subst hop
  simp only [execOp, Option.map_some, Option.map_none, hx, hy, hz]
  simp [h, Result.andThen]
theorem rc_str (l : List UInt8) {al : List (Nat × Nat × (Value → Value))} {x : Operand} {A : Option Addr} {m c : Nat} (hop : o.op = .convert 60 9 x) (hx : b.eval x = .slice A m c) (hm : l.length = m) (hr : Rd w A l) (hF : F j = Rc.val (.string (strOf l))) (ha : (al.all fun x => x.1 != j) = true) (hg : Rg.Open o V) :
    Rg.Does1 Try.prog o V b w (Rc.Good F cons (Rg.alias al) V S j w) := by
  subst hm
  refine rc_mv (.string (strOf l)) ?_ hF ha hg
  have := str_any w A l c hr
  obtain ⟨dst, op, ty, pos, after, guard⟩ := o
  simp only at hop
  subst hop
  simp only [execOp, hx]
  go_simp
theorem step_make (n : Nat) (l : List UInt8) (hop : o.op = .makeSlice 60 (.const (.int .i64 (n : Int))) (.const (.int .i64 (n : Int)))) (hn : n ≤ 1000000) (hF : F j = frow l) (hE : ∀ v, E j V v) (hg : Rg.Open o V) (hl : l = List.replicate n 0 := by rfl) : Rg.Does1 Try.prog o V b w (Rc.Good F cons E V S j w) := by
  obtain ⟨w', z, hrun, hb, hz, hr, hlt⟩ := make_row w n hn
  rw [← hl] at hz
  subst hz
  refine Rc.step_new (.slice (some ⟨w.heap.size, 0, none⟩) n n) w' (fun k => k = w.heap.size) (hE _) hg ?_ hb ?_ (fun k hk => by subst hk; exact ⟨Nat.le_refl _, hlt⟩)
  · obtain ⟨dst, op, ty, pos, after, guard⟩ := o
    simp only at hop
    subst hop
    simp [execOp, Act.eval, hrun, Result.andThen]
  · rw [hF]
    have hzl : z.length = n := by rw [hl, List.length_replicate]
    exact ⟨_, n, by rw [hzl], by omega, hr, fun b hb => by simp at hb; exact hb.symm⟩
end
theorem one_inv {σ : Type} (O : Obj σ) {v : Value} {s : σ} {B : Nat → Prop} {w : World} (h : O.At v s B w) (F : Nat → Rc.Fact) (cons : List (Nat × Nat)) (n : Nat) (hF : F n = turned O v (Ups B w) undef s) :
    Rc.Inv F cons (Rg.alias []) w.drew B (fun i => n ≤ i ∧ i < n + 1) (fun _ => undef) (fun _ b => B b) w.drew := by
  refine ⟨Mod.refl _ _, fun i hi => ?_, fun i b hi hb => ⟨O.lt h b hb, .inl hb⟩, fun i k b hi hk hne _ => ?_, fun j _ => fun i f hm => by simp at hm⟩
  · obtain rfl : i = n := by have := hi.1; omega
    rw [hF]; exact ⟨rfl, B, O.keep h (Nat.le_refl _) (fun _ _ => rfl), fun _ h => h, fun _ h => .inl h⟩
  · have := hi.1; have := hk.1; omega
theorem One.after {σ : Type} {O : Obj σ} {v : Value} {w0 W0 : World} {X0 : Nat → Prop} {s s' : σ} {B : Nat → Prop} {w w2 : World} (h : One O v w0 W0 X0 s B w) (hm : Mod w w2 B) {S : Nat → Prop} (hu : ∃ S1, O.At v s' S1 w2 ∧ (∀ b, S1 b → S b) ∧ ∀ b, S1 b → Ups B w b) : Own O v w0 W0 X0 s' w2 := by
  obtain ⟨S1, hat, _, hup⟩ := hu
  exact ⟨S1, h.turn hat hm hup⟩
/-- No object at all: for regions that only read rows. -/
def nil : Obj Unit where
  At v _ S _ := (∃ a, v = .pointer (some a)) ∧ ∀ b, ¬ S b
  keep h _ _ := h
  lt h b hb := absurd hb (h.2 b)
  ptr h := h.1
theorem nil_one (a : Addr) (w : World) : One nil (.pointer (some a)) w w (fun _ => False) () (fun _ => False) w := ⟨⟨⟨a, rfl⟩, fun _ h => h⟩, Mod.refl _ _, fun _ h => h.elim, Below.refl _ _, fun _ h => h.elim⟩
end Ob
end Go.Proofs.Ytpblhdpnmnfieaa
