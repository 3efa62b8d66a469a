/-
  OWN WORK. BaRg, BaStr, BaRgStr, Rc, BaObj, MkRows, TrFrame, BaSet
-/
import Derived.Test.YtombmeppdhhjhaaQ01

/-
  OWN WORK. Regions by facts: the steps of rows of bytes.
-/
namespace Go.Proofs.Ytombmeppdhhjhaa
open Go.RowKit

def bRow (l : List UInt8) : Rg.Fact := Rg.row 5 l.length (Lib.byteCells l)

theorem bRow_form {w : World} {v : Value} {l : List UInt8} (h : (bRow l).holds v w) : ∃ A c, v = .slice A l.length c ∧ l.length ≤ c ∧ Rd w A l := by
  have h0 : w.ownsRow 0 5 1 v l.length (Lib.byteCells l) := h
  rcases Nat.eq_zero_or_pos l.length with h1 | h1
  · rcases h0.2 with ⟨rfl, _⟩ | ⟨g, cap, cur, rfl, _, _, hn, _⟩
    · exact ⟨none, 0, by rw [h1], by omega, fun hp => absurd hp (by omega)⟩
    · exact ⟨_, cap, rfl, hn, fun hp => absurd hp (by omega)⟩
  · obtain ⟨g, c, e, hc, _, _, _, hr⟩ := rd_own h0 h1
    exact ⟨_, c, e, hc, hr⟩

section
variable {F : Nat → Rg.Fact} {cons : List (Nat × Nat)} {al : List (Nat × Nat × (Value → Value))} {W0 : World} {V : Nat → Value} {j : Nat} {o : Oper} {b : Act} {w : World}
theorem step_one (x : UInt8) {X : Int} (hX : X = x.toNat) (hop : o.op = .buildSlice 29 1 #[(0, .const (.int .u8 X))]) (hF : F j = bRow [x]) (ha : (al.all fun x => x.1 != j) = true) (hc : Rg.consOf cons j = none) (hg : Rg.Open o V) : Rg.Does1 Try.prog o V b w (Rg.Good F (Rg.consOf cons) (Rg.alias al) W0 V j w) := by
  subst hX
  refine Rg.step_new (.slice (some ⟨w.heap.size, 0, none⟩) 1 1) (w.alloc (.cells #[.int .u8 x.toNat] 5)) (Rg.alias_none ha V _) hc hg ?_ ((Below.refl _ _).alloc (Nat.le_refl _) _) ?_ ?_
  · obtain ⟨dst, op, ty, pos, after, guard⟩ := o
    simp only at hop
    subst hop
    go_simp
  · rw [hF]
    exact own_base (own_one w x)
  · intro k hk
    rw [hF] at hk
    exact own_lt (own_one w x) hk

theorem step_none (hop : o.op = .buildSlice 29 0 #[]) (hF : F j = bRow []) (ha : (al.all fun x => x.1 != j) = true) (hc : Rg.consOf cons j = none) (hg : Rg.Open o V) : Rg.Does1 Try.prog o V b w (Rg.Good F (Rg.consOf cons) (Rg.alias al) W0 V j w) := by
  refine Rg.step_new (.slice (some ⟨w.heap.size, 0, none⟩) 0 0) (w.alloc (.cells #[] 5)) (Rg.alias_none ha V _) hc hg ?_ ((Below.refl _ _).alloc (Nat.le_refl _) _) ?_ ?_
  · obtain ⟨dst, op, ty, pos, after, guard⟩ := o
    simp only at hop
    subst hop
    go_simp
  · rw [hF]
    exact own_base (own_none w)
  · intro k hk
    rw [hF] at hk
    exact own_lt (own_none w) hk

theorem step_app {i : Nat} (l r L : List UInt8) (hL : L = l ++ r) {s x : Operand} {A : Option Addr} {m c : Nat} (hop : o.op = .call { callee := .builtin .append, args := #[s, x], argTypes := #[29, 29] }) (hs : b.eval s = V i) (hx : b.eval x = .slice A m c)
    (hm : r.length = m) (hV : (bRow l).holds (V i) w) (hr : Rd w A r) (hn : l.length + r.length ≤ 1099511627776) (hF : F j = bRow L) (hFi : F i = bRow l) (ha : (al.all fun x => x.1 != j) = true) (hc : Rg.consOf cons j = some i) (hg : Rg.Open o V) : Rg.Does1 Try.prog o V b w (Rg.Good F (Rg.consOf cons) (Rg.alias al) W0 V j w) := by
  obtain ⟨i0, hi, hz0, hz1, hz2⟩ := info_parts Try.infoU8
  refine .of hg fun K hK => ?_
  refine wp_append_at s x 29 hop 0 5 i0 Try.underlying29 hi hz0 hz1 hz2 (V i) l.length (Lib.byteCells l) hs hV A r m c hm hx hr hn (Nat.zero_le _) ?_
  intro v' w' h1 h2 h3
  have hsrc : Rg.src F (Rg.consOf cons) V j = (V i).ownBlock := by
    unfold Rg.src
    rw [hc]
    show (F i).own (V i) = _
    rw [hFi]
    rfl
  have h4 : w'.ownsRow 0 5 1 v' L.length (Lib.byteCells L) := by
    subst hL
    rw [Lib.byteCells_append, List.length_append]
    exact h1.out
  refine hK v' w' ⟨by rw [hsrc]; exact h2.out, by rw [hF]; exact h4, fun k hk => ?_, Rg.alias_none ha V _⟩
  rw [hF] at hk
  have hk2 : v'.ownBlock = some k := hk
  refine ⟨?_, (own_lt h4 hk2).2⟩
  rcases h3.out with h5 | h5
  · left; rw [hsrc, ← h5]; exact hk2
  · right; rw [h5] at hk2; injection hk2 with hk2; omega

theorem step_row {f : FuncId} {xs : Array Operand} {ts : Array TypeId} (args : Array Value) (l : List UInt8) {n : Nat} (hent : ∀ args w, (callFunc f args).run Try.prog w = .ok (.enter f args) w) (hop : o.op = .call { callee := .value (.func f), args := xs, argTypes := ts }) (hargs : xs.map b.eval = args) (hn : l.length = n) (hF : F j = bRow l) (ha : (al.all fun x => x.1 != j) = true) (hc : Rg.consOf cons j = none) (hg : Rg.Open o V)
    (h : Calls Try.prog f args w fun e w' => ∃ v, e = .returned v ∧ w'.ownsRow w.heap.size 5 1 v n (Lib.byteCells l) ∧ Below w.heap.size w w') : Rg.Does1 Try.prog o V b w (Rg.Good F (Rg.consOf cons) (Rg.alias al) W0 V j w) := by
  subst hn
  refine Rg.step_call args hent hop hargs (fun v => Rg.alias_none ha V v) hc hg (h.mono ?_)
  rintro e w' ⟨v, rfl, h1, h2⟩
  exact ⟨v, rfl, h2, by rw [hF]; exact own_base h1, fun k hk => by rw [hF] at hk; exact own_lt h1 hk⟩

theorem step_num {f : FuncId} {xs : Array Operand} {ts : Array TypeId} (args : Array Value) (x : Value) (hent : ∀ args w, (callFunc f args).run Try.prog w = .ok (.enter f args) w) (hop : o.op = .call { callee := .value (.func f), args := xs, argTypes := ts }) (hargs : xs.map b.eval = args) (hF : F j = Rg.val x) (ha : (al.all fun x => x.1 != j) = true) (hc : Rg.consOf cons j = none) (hg : Rg.Open o V)
    (h : Calls Try.prog f args w fun e w' => e = .returned x ∧ Below w.heap.size w w') : Rg.Does1 Try.prog o V b w (Rg.Good F (Rg.consOf cons) (Rg.alias al) W0 V j w) := by
  refine Rg.step_call args hent hop hargs (fun v => Rg.alias_none ha V v) hc hg (h.mono ?_)
  rintro e w' ⟨rfl, h2⟩
  exact ⟨x, rfl, h2, by rw [hF]; rfl, fun k hk => by rw [hF] at hk; cases hk⟩

/-- A cut. -/
theorem step_slh {t : TypeId} {x y : Operand} {X Y v : Value} (hop : o.op = .slice t x none (some y) none) (hx : b.eval x = X) (hy : b.eval y = Y) (h : (Instr.sliceAt t X none (some Y) none).run Try.prog w = .ok v w) (hF : F j = Rg.val v) (ha : (al.all fun x => x.1 != j) = true) (hc : Rg.consOf cons j = none) (hg : Rg.Open o V) :
    Rg.Does1 Try.prog o V b w (Rg.Good F (Rg.consOf cons) (Rg.alias al) W0 V j w) := by
  refine Rg.step_val v (Rg.alias_none ha V _) hc hg ?_ (by rw [hF]; rfl) (by rw [hF]; rfl)
  obtain ⟨dst, op, ty, pos, after, guard⟩ := o
  simp only at hop
  subst hop
  simp only [execOp, Option.map_some, Option.map_none, hx, hy]
  simp [h, Result.andThen]

theorem step_sll {t : TypeId} {x y : Operand} {X Y v : Value} (hop : o.op = .slice t x (some y) none none) (hx : b.eval x = X) (hy : b.eval y = Y) (h : (Instr.sliceAt t X (some Y) none none).run Try.prog w = .ok v w) (hF : F j = Rg.val v) (ha : (al.all fun x => x.1 != j) = true) (hc : Rg.consOf cons j = none) (hg : Rg.Open o V) :
    Rg.Does1 Try.prog o V b w (Rg.Good F (Rg.consOf cons) (Rg.alias al) W0 V j w) := by
  refine Rg.step_val v (Rg.alias_none ha V _) hc hg ?_ (by rw [hF]; rfl) (by rw [hF]; rfl)
  obtain ⟨dst, op, ty, pos, after, guard⟩ := o
  simp only at hop
  subst hop
  simp only [execOp, Option.map_some, Option.map_none, hx, hy]
  simp [h, Result.andThen]

theorem step_sllh {t : TypeId} {x y z : Operand} {X Y Z v : Value} (hop : o.op = .slice t x (some y) (some z) none) (hx : b.eval x = X) (hy : b.eval y = Y) (hz : b.eval z = Z) (h : (Instr.sliceAt t X (some Y) (some Z) none).run Try.prog w = .ok v w) (hF : F j = Rg.val v) (ha : (al.all fun x => x.1 != j) = true) (hc : Rg.consOf cons j = none) (hg : Rg.Open o V) :
    Rg.Does1 Try.prog o V b w (Rg.Good F (Rg.consOf cons) (Rg.alias al) W0 V j w) := by
  refine Rg.step_val v (Rg.alias_none ha V _) hc hg ?_ (by rw [hF]; rfl) (by rw [hF]; rfl)
  obtain ⟨dst, op, ty, pos, after, guard⟩ := o
  simp only at hop
  subst hop
  simp only [execOp, Option.map_some, Option.map_none, hx, hy, hz]
  simp [h, Result.andThen]

/-- A value that hangs on no memory. -/
theorem step_mv (x : Value) (h : (execOp b.eval o).run Try.prog w = .ok (.value x) w) (hF : F j = Rg.val x) (ha : (al.all fun x => x.1 != j) = true) (hc : Rg.consOf cons j = none) (hg : Rg.Open o V) : Rg.Does1 Try.prog o V b w (Rg.Good F (Rg.consOf cons) (Rg.alias al) W0 V j w) :=
  Rg.step_val x (Rg.alias_none ha V _) hc hg h (by rw [hF]; rfl) (by rw [hF]; rfl)
/-- A value told out of another. -/
theorem step_as (i : Nat) (f : Value → Value) (hal : al.filter (fun x => x.1 == j) = [(j, i, f)]) (h : (execOp b.eval o).run Try.prog w = .ok (.value (f (V i))) w) (hF : F j = Rg.any) (hc : Rg.consOf cons j = none) (hg : Rg.Open o V) : Rg.Does1 Try.prog o V b w (Rg.Good F (Rg.consOf cons) (Rg.alias al) W0 V j w) :=
  Rg.step_val _ (Rg.alias_one hal V) hc hg h (by rw [hF]; trivial) (by rw [hF]; rfl)
theorem made_bytes (n : Nat) : (madeCells (Value.int .u8 0).cells (n * 1)).toList = Lib.byteCells (List.replicate n 0) := by
  apply List.ext_getElem
  · simp [madeCells, Lib.byteCells]
  · intro i h1 h2
    simp [madeCells, Lib.byteCells, Value.cells]
    rw [Nat.mod_one]; rfl
/-- A row of noughts. -/
theorem step_make (n : Nat) {x y : Operand} (hop : o.op = .makeSlice 29 x y) (hx : b.eval x = .int .i64 (n : Int)) (hy : b.eval y = .int .i64 (n : Int)) (hn : n ≤ 1099511627776) (hF : F j = bRow (List.replicate n 0)) (ha : (al.all fun x => x.1 != j) = true) (hc : Rg.consOf cons j = none) (hg : Rg.Open o V) :
    Rg.Does1 Try.prog o V b w (Rg.Good F (Rg.consOf cons) (Rg.alias al) W0 V j w) := by
  obtain ⟨i0, hi, hz0, hz1, hz2⟩ := info_parts Try.infoU8
  obtain ⟨w', hrun, r1, r2⟩ := run_make_full (P := Try.prog) w w.heap.size 29 5 i0 (.int .u8 0) 1 Try.underlying29 hi hz0 hz1 .i64 .i64 n (by rw [hz2]; omega) (by unfold maxLen; omega) (Nat.le_refl _)
  rw [made_bytes] at r1
  refine Rg.step_new (.slice (some ⟨w.heap.size, 0, none⟩) n n) w' (Rg.alias_none ha V _) hc hg ?_ ((Below.refl _ _).grown r2 (Nat.le_refl _) (fun k hk => by cases hk)) ?_ ?_
  · obtain ⟨dst, op, ty, pos, after, guard⟩ := o
    simp only at hop
    subst hop
    simp [execOp, hx, hy, hrun, Result.andThen]
  · rw [hF]
    show w'.ownsRow 0 _ 1 _ (List.replicate n (0 : UInt8)).length _
    rw [List.length_replicate]
    exact own_base r1
  · intro k hk
    rw [hF] at hk
    exact own_lt r1 hk
end
end Go.Proofs.Ytombmeppdhhjhaa

/-
  OWN WORK. Texts of bytes.
-/
namespace Go.Proofs.Ytombmeppdhhjhaa
open Go.RowKit

/-- A text of these bytes. -/
def strOf (l : List UInt8) : ByteArray := ⟨l.toArray⟩

theorem strOf_size (l : List UInt8) : (strOf l).size = l.length := by simp [strOf, ByteArray.size]

theorem str_any (w : World) (A : Option Addr) (l : List UInt8) (c : Nat) (h : Rd w A l) : (convert 29 9 (.slice A l.length c)).run Try.prog w = .ok (.string (strOf l)) w := by
  cases A with
  | none =>
    have hl : l = [] := by
      rcases Nat.eq_zero_or_pos l.length with h1 | h1
      · exact List.eq_nil_of_length_eq_zero h1
      · obtain ⟨b, off, h2, _⟩ := h h1
        cases h2
    subst hl
    exact run_convert_bytes_nil w 29 5 Try.underlying29 Try.underlying5 0 c 9 Try.underlying9
  | some ad =>
    have hl : (loadCells ad l.length).run Try.prog w = .ok ((l.map fun b => ((b.toNat : Nat) : Int)).map (Value.int .u8)).toArray w := by
      have := run_loadCells_list (P := Try.prog) w ad ((l.map fun b => ((b.toNat : Nat) : Int)).map (Value.int .u8)) (fun j v hj => by
        rw [List.map_map] at hj
        simp only [List.getElem?_map, Option.map_eq_some_iff] at hj
        obtain ⟨x, hx, rfl⟩ := hj
        obtain ⟨b, off, h1, _, h2⟩ := h (by have := (List.getElem?_eq_some_iff.1 hx).1; omega)
        obtain rfl : ad = ⟨b, off, none⟩ := by injection h1
        rw [add_plain]
        exact h2 j x hx)
      simpa using this
    rw [run_convert_bytes_string w 29 9 5 _ l.length c Try.underlying29 Try.underlying5 Try.underlying9, run_bytesToString w _ l.length c _ hl, foldl_push_bytes]
    congr 3
    simp [ByteArray.empty, ByteArray.emptyWithCapacity]
    have e : ((fun n : Int => UInt8.ofNat n.toNat) ∘ fun b : UInt8 => ((b.toNat : Nat) : Int)) = id := funext fun b => by simp
    rw [e, List.map_id]
    rfl
end Go.Proofs.Ytombmeppdhhjhaa

/-
  OWN WORK. Regions by facts: texts of bytes.
-/
namespace Go.Proofs.Ytombmeppdhhjhaa
open Go.RowKit

section
variable {F : Nat → Rg.Fact} {cons : List (Nat × Nat)} {al : List (Nat × Nat × (Value → Value))} {W0 : World} {V : Nat → Value} {j : Nat} {o : Oper} {b : Act} {w : World}
theorem step_str (l : List UInt8) {x : Operand} {A : Option Addr} {m c : Nat} (hop : o.op = .convert 29 9 x) (hx : b.eval x = .slice A m c) (hm : l.length = m) (hr : Rd w A l) (hF : F j = Rg.val (.string (strOf l))) (ha : (al.all fun x => x.1 != j) = true) (hc : Rg.consOf cons j = none) (hg : Rg.Open o V) :
    Rg.Does1 Try.prog o V b w (Rg.Good F (Rg.consOf cons) (Rg.alias al) W0 V j w) := by
  subst hm
  refine Rg.step_val (.string (strOf l)) (Rg.alias_none ha V _) hc hg ?_ (by rw [hF]; rfl) (by rw [hF]; rfl)
  have := str_any w A l c hr
  obtain ⟨dst, op, ty, pos, after, guard⟩ := o
  simp only at hop
  subst hop
  simp only [execOp, hx]
  go_simp
end
end Go.Proofs.Ytombmeppdhhjhaa

/-
  OWN WORK. Regions that draw their order, by facts with what they stand on: an operation may take over what others' results, or objects that were there, stand on, and may turn it; all else stays.
-/
namespace Go.Proofs.Ytombmeppdhhjhaa.Rc
open Go Go.RowKit Go.Proofs.Ytombmeppdhhjhaa.Rg

/-- What was there stays, but for these blocks. -/
structure Mod (w w' : World) (X : Nat → Prop) : Prop where
  os : w'.os = w.os
  tape : w'.tape = w.tape
  output : w'.output = w.output
  size : w.heap.size ≤ w'.heap.size
  block : ∀ k, k < w.heap.size → ¬ X k → w'.heap[k]? = w.heap[k]?
theorem Mod.refl (w : World) (X : Nat → Prop) : Mod w w X := ⟨rfl, rfl, rfl, Nat.le_refl _, fun _ _ _ => rfl⟩
theorem Mod.trans {a b c : World} {X : Nat → Prop} (h : Mod a b X) (k : Mod b c X) : Mod a c X :=
  ⟨k.os.trans h.os, k.tape.trans h.tape, k.output.trans h.output, Nat.le_trans h.size k.size, fun i hi hn => (k.block i (Nat.lt_of_lt_of_le hi h.size) hn).trans (h.block i hi hn)⟩
theorem Mod.mono {a b : World} {X Y : Nat → Prop} (h : Mod a b X) (hXY : ∀ k, k < a.heap.size → X k → Y k) : Mod a b Y := ⟨h.os, h.tape, h.output, h.size, fun k hk hn => h.block k hk fun hx => hn (hXY k hk hx)⟩
theorem Mod.of_below {a b : World} (h : Below a.heap.size a b) (X : Nat → Prop) : Mod a b X := ⟨h.os, h.tape, h.output, h.size, fun k hk _ => h.block k hk⟩
theorem Mod.below {a b : World} {X : Nat → Prop} (h : Mod a b X) (hX : ∀ k, X k → a.heap.size ≤ k) : Below a.heap.size a b := ⟨h.os, h.tape, h.output, h.size, fun k hk => h.block k hk fun hx => Nat.not_lt.2 (hX k hx) hk⟩
theorem Mod.drew {a b : World} {X : Nat → Prop} (h : Mod a b X) : Mod a b.drew X := ⟨h.os, h.tape, h.output, h.size, h.block⟩
theorem Mod.undrew {a b : World} {X : Nat → Prop} (h : Mod a.drew b X) : Mod a b X := ⟨h.os, h.tape, h.output, h.size, h.block⟩

structure Fact where
  holds : Value → World → (Nat → Prop) → Prop
  keep : ∀ v w w' S, holds v w S → w.heap.size ≤ w'.heap.size → (∀ b, S b → w'.heap[b]? = w.heap[b]?) → holds v w' S

def Live (cons : List (Nat × Nat)) (L : Nat → Prop) (i : Nat) : Prop := L i ∧ ∀ k, L k → (k, i) ∉ cons
structure Inv (F : Nat → Fact) (cons : List (Nat × Nat)) (E : Nat → (Nat → Value) → Value → Prop) (W0 : World) (X0 : Nat → Prop) (L : Nat → Prop) (V : Nat → Value) (S : Nat → Nat → Prop) (w : World) : Prop where
  mod : Mod W0 w X0
  holds : ∀ i, Live cons L i → (F i).holds (V i) w (S i)
  lt : ∀ i b, Live cons L i → S i b → b < w.heap.size ∧ (X0 b ∨ W0.heap.size ≤ b)
  sep : ∀ i j b, Live cons L i → Live cons L j → i ≠ j → S i b → ¬ S j b
  eqs : ∀ j, L j → E j V (V j)
def Taken (cons : List (Nat × Nat)) (S : Nat → Nat → Prop) (j : Nat) (b : Nat) : Prop := ∃ i, (j, i) ∈ cons ∧ S i b
def Good (F : Nat → Fact) (cons : List (Nat × Nat)) (E : Nat → (Nat → Value) → Value → Prop) (V : Nat → Value) (S : Nat → Nat → Prop) (j : Nat) (w : World) (v : Value) (w' : World) : Prop :=
  ∃ T : Nat → Prop, Mod w w' (Taken cons S j) ∧ (F j).holds v w' T ∧ (∀ b, T b → (Taken cons S j b ∨ w.heap.size ≤ b) ∧ b < w'.heap.size) ∧ E j V v

section
variable {P : Program} {ops : Array Oper} {Q : Exit → Act → World → Prop} {F : Nat → Fact} {cons : List (Nat × Nat)} {E : Nat → (Nat → Value) → Value → Prop}
theorem Inv.step {W0 : World} {X0 : Nat → Prop} {L : Nat → Prop} {V : Nat → Value} {S : Nat → Nat → Prop} {w w' : World} {j : Nat} {v : Value} (h : Inv F cons E W0 X0 L V S w) (hj : ¬ L j) (hc : ∀ i, (j, i) ∈ cons → Live cons L i) (hnc : ∀ k, L k → (k, j) ∉ cons) (hjj : (j, j) ∉ cons)
    (hse : ∀ k, L k → ∀ V', (∀ i, L i → V i = V' i) → E k V (V k) → E k V' (V k)) (hsj : ∀ V', (∀ i, L i → V i = V' i) → E j V v → E j V' v) (hg : Good F cons E V S j w v w') :
    ∃ T, Inv F cons E W0 X0 (fun k => k = j ∨ L k) (fun k => if k = j then v else V k) (fun k => if k = j then T else S k) w' := by
  obtain ⟨T, hg, hf, ho, heq⟩ := hg
  have live : ∀ k, k ≠ j → Live cons (fun k => k = j ∨ L k) k → Live cons L k ∧ (j, k) ∉ cons := fun k hk ⟨h1, h2⟩ => ⟨⟨h1.resolve_left hk, fun m hm => h2 m (.inr hm)⟩, h2 j (.inl rfl)⟩
  have far : ∀ k, k ≠ j → Live cons (fun k => k = j ∨ L k) k → ∀ b, S k b → b < w.heap.size ∧ ¬ Taken cons S j b := fun k hk hl b hb => by
    obtain ⟨h1, h2⟩ := live k hk hl
    refine ⟨(h.lt k b h1 hb).1, fun ⟨i, hi, hib⟩ => ?_⟩
    exact h.sep k i b h1 (hc i hi) (fun e => h2 (by rw [e]; exact hi)) hb hib
  have agree : ∀ i, L i → V i = (fun k => if k = j then v else V k) i := fun i hi => by
    have : i ≠ j := fun e => hj (e ▸ hi)
    simp [this]
  refine ⟨T, ?_, fun k hk => ?_, fun k b hk hb => ?_, fun i k b hi hk hne hib hkb => ?_, fun k hk => ?_⟩
  · refine ⟨hg.os.trans h.mod.os, hg.tape.trans h.mod.tape, hg.output.trans h.mod.output, Nat.le_trans h.mod.size hg.size, fun k hk hn => ?_⟩
    refine (hg.block k (Nat.lt_of_lt_of_le hk h.mod.size) fun ⟨i, hi, hib⟩ => ?_).trans (h.mod.block k hk hn)
    rcases (h.lt i k (hc i hi) hib).2 with h1 | h1
    · exact hn h1
    · omega
  · by_cases e : k = j
    · subst e; simp only [if_true]; exact hf
    · simp only [if_neg e]
      refine (F k).keep _ _ _ _ (h.holds k (live k e hk).1) hg.size fun b hb => ?_
      have := far k e hk b hb
      exact hg.block b this.1 this.2
  · by_cases e : k = j
    · subst e
      simp only [if_true] at hb
      obtain ⟨h1, h2⟩ := ho b hb
      refine ⟨h2, ?_⟩
      rcases h1 with ⟨i, hi, hib⟩ | h1
      · exact (h.lt i b (hc i hi) hib).2
      · exact .inr (Nat.le_trans h.mod.size h1)
    · simp only [if_neg e] at hb
      have := h.lt k b (live k e hk).1 hb
      exact ⟨Nat.lt_of_lt_of_le this.1 hg.size, this.2⟩
  · by_cases ei : i = j
    · subst ei
      simp only [if_true] at hib
      simp only [if_neg (Ne.symm hne)] at hkb
      obtain ⟨h1, h2⟩ := far k (Ne.symm hne) hk b hkb
      rcases (ho b hib).1 with h3 | h3
      · exact h2 h3
      · omega
    · simp only [if_neg ei] at hib
      by_cases ek : k = j
      · subst ek
        simp only [if_true] at hkb
        obtain ⟨h1, h2⟩ := far i ei hi b hib
        rcases (ho b hkb).1 with h3 | h3
        · exact h2 h3
        · omega
      · simp only [if_neg ek] at hkb
        exact h.sep i k b (live i ei hi).1 (live k ek hk).1 hne hib hkb
  · by_cases e : k = j
    · subst e
      simp only [if_true]
      exact hsj _ agree heq
    · simp only [if_neg e]
      have hk2 := hk.resolve_left e
      exact hse k hk2 _ agree (h.eqs k hk2)

/-- What the kernel reckons of a region. -/
def check (ops : Array Oper) (nv : Nat) (use : List (List (Nat × Nat))) (bef reads : List (List Nat)) (cons : List (Nat × Nat)) : Bool :=
  Rg.distinct ops && Region.noSelect ops &&
  (List.range ops.size).all (fun j => match ops[j]? with
    | none => false
    | some o =>
      (use.getD j []).all (fun i => (ops[i.1]?).bind (·.dst) == some i.2 && (bef.getD j []).contains i.1) &&
      (bef.getD j []).all (fun i => decide (i < j) && o.after.any (fun e => Region.binds .any e && (e.on == i || (bef.getD e.on []).contains i))) &&
      o.after.all (fun e => !Region.binds .any e || decide (e.on < j)) &&
      (o.looksAt ops).all (fun t => (List.range ops.size).all fun i => (nums use j).contains i || (match ops[i]? with | some x => x.dst != some t | none => true)) &&
      decide ((nums use j).Nodup) &&
      (reads.getD j []).all (fun i => ((bef.getD j []).contains i || (decide (ops.size ≤ i) && decide (i < ops.size + nv))) && cons.all (fun x => x.2 != i || x.1 == j || (bef.getD x.1 []).contains j)) &&
      (match o.guard with | some (g, _) => (nums use j).contains g | none => true)) &&
  cons.all (fun x => (reads.getD x.1 []).contains x.2 && decide (x.1 < ops.size))
/-- The facts that an operation may lean on. -/
structure Use (F : Nat → Fact) (V : Nat → Value) (S : Nat → Nat → Prop) (w : World) (l : List Nat) : Prop where
  holds : ∀ i, i ∈ l → (F i).holds (V i) w (S i)
  lt : ∀ i, i ∈ l → ∀ b, S i b → b < w.heap.size
  sep : ∀ i, i ∈ l → ∀ k, k ∈ l → i ≠ k → ∀ b, S i b → ¬ S k b

theorem run_all (nv : Nat) (use : List (List (Nat × Nat))) (bef reads : List (List Nat)) (hchk : Rc.check ops nv use bef reads cons = true) (hE : ∀ j V V' v, (∀ i ∈ nums use j, V i = V' i) → E j V v → E j V' v) (a0 : Act) (W0 : World) (X0 : Nat → Prop)
    (hE0 : ∀ j, ops.size ≤ j → ∀ V v, E j V v)
    (hstep : ∀ j o, ops[j]? = some o → ∀ V S w, Mod W0 w X0 → Use F V S w (reads.getD j []) → (∀ i ∈ nums use j, E i V (V i)) → Does P ops o (putUse V (use.getD j []) a0) w (Good F cons E V S j w))
    (hend : ∀ V S w a, Inv F cons E W0 X0 (fun i => i < ops.size + nv) V S w → Frm ops (fun i => i < ops.size) V a0 a → Q .normal a w) :
    ∀ (fuel : Nat) (listed : Array Bool) (V : Nat → Value) (S : Nat → Nat → Prop) (a : Act) (w : World), listed.size = ops.size → (listed.toList.filter (!·)).length ≤ fuel →
      (∀ k o, ops[k]? = some o → listed.getD k false = true → ∀ e ∈ o.after, Region.binds .any e = true → listed.getD e.on false = true) →
      Inv F cons E W0 X0 (fun i => listed.getD i false = true ∨ (ops.size ≤ i ∧ i < ops.size + nv)) V S w → Frm ops (fun i => listed.getD i false = true) V a0 a → wpAny P .any ops Q fuel listed a w := by
  simp only [Rc.check, Bool.and_eq_true] at hchk
  obtain ⟨⟨⟨hdis, hsel⟩, hops⟩, hcons⟩ := hchk
  have hO : ∀ j o, ops[j]? = some o → (∀ x ∈ use.getD j [], (ops[x.1]?).bind (·.dst) = some x.2 ∧ x.1 ∈ bef.getD j []) ∧ (∀ i ∈ bef.getD j [], i < j ∧ ∃ e ∈ o.after, Region.binds .any e = true ∧ (e.on = i ∨ i ∈ bef.getD e.on [])) ∧ (∀ e ∈ o.after, Region.binds .any e = true → e.on < j) ∧
      (∀ t ∈ o.looksAt ops, ∀ i x, ops[i]? = some x → x.dst = some t → i ∈ nums use j) ∧ (nums use j).Nodup ∧ (∀ i ∈ reads.getD j [], (i ∈ bef.getD j [] ∨ (ops.size ≤ i ∧ i < ops.size + nv)) ∧ ∀ x ∈ cons, x.2 = i → x.1 = j ∨ j ∈ bef.getD x.1 []) := by
    intro j o ho
    have h := List.all_eq_true.1 hops j (List.mem_range.2 (Array.getElem?_eq_some_iff.1 ho).1)
    simp only [ho, Bool.and_eq_true] at h
    obtain ⟨⟨⟨⟨⟨⟨h1, h2⟩, h3⟩, h4⟩, h5⟩, h6⟩, _⟩ := h
    refine ⟨fun x hx => ?_, fun i hi => ?_, fun e he hb => ?_, fun t ht i x hx hd => ?_, by simpa using h5, fun i hi => ?_⟩
    · have := List.all_eq_true.1 h1 x hx
      simp only [Bool.and_eq_true, beq_iff_eq] at this
      exact ⟨this.1, by simpa using this.2⟩
    · have := List.all_eq_true.1 h2 i hi
      simp only [Bool.and_eq_true, decide_eq_true_eq] at this
      obtain ⟨e, he, hb⟩ := Array.any_eq_true'.1 this.2
      simp only [Bool.and_eq_true, Bool.or_eq_true, beq_iff_eq] at hb
      exact ⟨this.1, e, he, hb.1, hb.2.imp id (fun h => by simpa using h)⟩
    · have := Array.all_eq_true_iff_forall_mem.1 h3 e he
      simpa [hb] using this
    · have := List.all_eq_true.1 (List.all_eq_true.1 h4 t ht) i (List.mem_range.2 (Array.getElem?_eq_some_iff.1 hx).1)
      simpa [hx, hd] using this
    · have := List.all_eq_true.1 h6 i hi
      simp only [Bool.and_eq_true, Bool.or_eq_true, decide_eq_true_eq] at this
      refine ⟨this.1.imp (fun h => by simpa using h) id, fun x hx e => ?_⟩
      have h7 := List.all_eq_true.1 this.2 x hx
      simpa [e] using h7
  have hC : ∀ j i, (j, i) ∈ cons → i ∈ reads.getD j [] ∧ j < ops.size := fun j i h => by
    have := List.all_eq_true.1 hcons _ h
    simpa using this
  intro fuel
  have all_of : ∀ listed : Array Bool, listed.size = ops.size → Region.ready .any ops listed = [] → ∀ k, k < ops.size → listed.getD k false = true := by
    intro listed hsz hr k
    induction k using Nat.strongRecOn with
    | _ k ih =>
      intro hk
      by_cases hl : listed.getD k false = true
      · exact hl
      · exfalso
        have : k ∈ Region.ready .any ops listed := mem_ready.2 ⟨by
          simp only [Array.getD_eq_getD_getElem?] at hl ⊢
          rw [Array.getElem?_eq_getElem (by omega)] at hl ⊢
          simpa using hl, _, Array.getElem?_eq_getElem hk, fun e he hb => ih e.on ((hO k _ (Array.getElem?_eq_getElem hk)).2.2.1 e he hb) (Nat.lt_trans ((hO k _ (Array.getElem?_eq_getElem hk)).2.2.1 e he hb) hk)⟩
        rw [hr] at this
        cases this
  have lis_lt : ∀ (listed : Array Bool), listed.size = ops.size → ∀ i, listed.getD i false = true → i < ops.size := fun listed hsz i h => by
    rcases Nat.lt_or_ge i ops.size with h1 | h1
    · exact h1
    · simp [Array.getD_eq_getD_getElem?, Array.getElem?_eq_none (show listed.size ≤ i by omega)] at h
  have fin : ∀ (listed : Array Bool) (V : Nat → Value) (S : Nat → Nat → Prop) (a : Act) (w : World), listed.size = ops.size → Region.ready .any ops listed = [] →
      Inv F cons E W0 X0 (fun i => listed.getD i false = true ∨ (ops.size ≤ i ∧ i < ops.size + nv)) V S w → Frm ops (fun i => listed.getD i false = true) V a0 a → Q .normal a w := by
    intro listed V S a w hsz hr hi hf
    have hall := all_of listed hsz hr
    have heq : ∀ i, (listed.getD i false = true) ↔ i < ops.size := fun i => ⟨lis_lt listed hsz i, hall i⟩
    refine hend V S w a ?_ (hf.congr heq fun _ _ => rfl)
    have : (fun i => listed.getD i false = true ∨ (ops.size ≤ i ∧ i < ops.size + nv)) = (fun i => i < ops.size + nv) := funext fun i => propext (by rw [heq]; omega)
    rwa [this] at hi
  /- what is listed has all that comes before it listed -/
  have befL : ∀ listed : Array Bool, (∀ k o, ops[k]? = some o → listed.getD k false = true → ∀ e ∈ o.after, Region.binds .any e = true → listed.getD e.on false = true) →
      ∀ j o, ops[j]? = some o → (∀ e ∈ o.after, Region.binds .any e = true → listed.getD e.on false = true) → ∀ i ∈ bef.getD j [], listed.getD i false = true := by
    intro listed hcl j
    induction j using Nat.strongRecOn with
    | _ j ih =>
      intro o ho haft i hi
      obtain ⟨_, e, he, hb, h⟩ := (hO j o ho).2.1 i hi
      have hel := haft e he hb
      rcases h with rfl | h
      · exact hel
      · have hlt := (hO j o ho).2.2.1 e he hb
        have hon : e.on < ops.size := Nat.lt_trans hlt (Array.getElem?_eq_some_iff.1 ho).1
        exact ih e.on hlt _ (Array.getElem?_eq_getElem hon) (hcl _ _ (Array.getElem?_eq_getElem hon) hel) i h
  induction fuel with
  | zero =>
    intro listed V S a w hsz hfu hcl hi hf
    have hr : Region.ready .any ops listed = [] := by
      apply List.eq_nil_iff_forall_not_mem.2
      intro j hj
      obtain ⟨h1, o, ho, _⟩ := mem_ready.1 hj
      have h2 := left_none listed.toList (by omega) j (by simp; rw [hsz]; exact (Array.getElem?_eq_some_iff.1 ho).1)
      simp only [Array.getElem?_toList] at h2
      simp [Array.getD_eq_getD_getElem?, h2] at h1
    exact ⟨hr, fin listed V S a w hsz hr hi hf⟩
  | succ fuel ih =>
    intro listed V S a w hsz hfu hcl hi hf
    refine ⟨fun hr => fin listed V S a w hsz hr hi hf, fun j hj => ?_⟩
    obtain ⟨hjf, o, ho, haft⟩ := mem_ready.1 hj
    have hjlt : j < ops.size := (Array.getElem?_eq_some_iff.1 ho).1
    have hjs : listed[j]? = some false := by
      simp only [Array.getD_eq_getD_getElem?, Array.getElem?_eq_getElem (show j < listed.size by omega), Option.getD_some] at hjf ⊢
      rw [hjf]
    have hjn : ¬ listed.getD j false = true := by simp [Array.getD_eq_getD_getElem?, hjs]
    obtain ⟨h0, h1, h2, h3, h4, h5⟩ := hO j o ho
    have hBL := befL listed hcl j o ho haft
    have hUL : ∀ i, i ∈ nums use j → listed.getD i false = true := fun i hi => by
      obtain ⟨x, hx, rfl⟩ := List.mem_map.1 hi
      exact hBL _ (h0 x hx).2
    have hjL : ¬ (listed.getD j false = true ∨ (ops.size ≤ j ∧ j < ops.size + nv)) := by
      rintro (h | h)
      · exact hjn h
      · omega
    have kL : ∀ k, (listed.getD k false = true ∨ (ops.size ≤ k ∧ k < ops.size + nv)) → k < ops.size → listed.getD k false = true := fun k hk hlt => hk.resolve_right (by omega)
    have jbef : ∀ k, k < ops.size → listed.getD k false = true → ¬ j ∈ bef.getD k [] := fun k hkl hk hb =>
      hjn (befL listed hcl k _ (Array.getElem?_eq_getElem hkl) (hcl k _ (Array.getElem?_eq_getElem hkl) hk) j hb)
    have hlive : ∀ i, i ∈ reads.getD j [] → Live cons (fun i => listed.getD i false = true ∨ (ops.size ≤ i ∧ i < ops.size + nv)) i := fun i hir => by
      obtain ⟨h6, h7⟩ := h5 i hir
      refine ⟨h6.imp (hBL i) id, fun k hk hck => ?_⟩
      have hkl := (hC k i hck).2
      rcases h7 _ hck rfl with h8 | h8
      · simp only at h8
        subst h8
        exact hjL hk
      · exact jbef k hkl (kL k hk hkl) h8
    have hd := hstep j o ho V S w hi.mod ⟨fun i hir => hi.holds i (hlive i hir), fun i hir b hb => (hi.lt i b (hlive i hir) hb).1, fun i hir k hkr hne b hib => hi.sep i k b (hlive i hir) (hlive k hkr) hne hib⟩ (fun i hiu => hi.eqs i (.inl (hUL i hiu)))
    have hb := Frm.putUse (V := V) (a0 := a0) hdis (use.getD j []) (fun x hx => (h0 x hx).1) h4
    refine Does.at_ ho (Region.noSelect_spec hsel j o · · ho) (hf.size.trans hb.size.symm) (fun t ht => hf.at_ hb t (fun i x hx hd => ?_)) hd (fun v w' hg => ?_)
    · exact ⟨fun _ => h3 t ht i x hx hd, fun h => hUL i h⟩
    · have hus : ∀ k, (listed.getD k false = true ∨ (ops.size ≤ k ∧ k < ops.size + nv)) → ∀ i ∈ nums use k, k < ops.size → listed.getD i false = true := fun k hk i hik hkl => by
        obtain ⟨x, hx, rfl⟩ := List.mem_map.1 hik
        exact befL listed hcl k _ (Array.getElem?_eq_getElem hkl) (hcl k _ (Array.getElem?_eq_getElem hkl) (kL k hk hkl)) _ ((hO k _ (Array.getElem?_eq_getElem hkl)).1 x hx).2
      obtain ⟨T, h6⟩ := hi.step (v := v) hjL (fun i hci => hlive i (hC j i hci).1) (fun k hk hck => by
          have hkl : k < ops.size := (hC k j hck).2
          have := (hO k _ (Array.getElem?_eq_getElem hkl)).2.2.2.2.2 j (hC k j hck).1
          rcases this.1 with h7 | h7
          · exact jbef k hkl (kL k hk hkl) h7
          · omega) (fun hcj => by
          have := (h5 j (hC j j hcj).1).1
          rcases this with h7 | h7
          · exact Nat.lt_irrefl j (h1 j h7).1
          · omega) (fun k hk V' hV h => by
          rcases Nat.lt_or_ge k ops.size with hkl | hkl
          · exact hE k V V' _ (fun i hik => hV i (.inl (hus k hk i hik hkl))) h
          · exact hE0 k hkl _ _) (fun V' hV => hE j V V' _ (fun i hij => hV i (.inl (hUL i hij)))) hg
      refine ih (listed.setIfInBounds j true) (fun k => if k = j then v else V k) (fun k => if k = j then T else S k) (a.put o.dst v) w' (by simpa using hsz) ?_ ?_ ?_ ?_
      · have := left_set listed.toList j (by simpa using hjs)
        rw [Array.toList_setIfInBounds]
        omega
      · intro k ok hok hk e he hb2
        rw [getD_set] at hk ⊢
        rcases hk with ⟨rfl, _⟩ | hk
        · obtain rfl : ok = o := by rw [ho] at hok; exact (Option.some.inj hok).symm
          exact .inr (haft e he hb2)
        · exact .inr (hcl k ok hok hk e he hb2)
      · have e : (fun i => (listed.setIfInBounds j true).getD i false = true ∨ (ops.size ≤ i ∧ i < ops.size + nv)) = (fun k => k = j ∨ (listed.getD k false = true ∨ (ops.size ≤ k ∧ k < ops.size + nv))) := funext fun k => propext (by
          rw [getD_set]; constructor
          · rintro ((⟨h, _⟩ | h) | h)
            · exact .inl h
            · exact .inr (.inl h)
            · exact .inr (.inr h)
          · rintro (h | h | h)
            · exact .inl (.inl ⟨h, by omega⟩)
            · exact .inl (.inr h)
            · exact .inr h)
        rw [e]; exact h6
      · refine (hf.step hdis j o ho hjn v).congr (fun k => ?_) (fun _ _ => rfl)
        rw [getD_set]; constructor
        · rintro (h | h)
          · exact .inl ⟨h, by omega⟩
          · exact .inr h
        · rintro (⟨h, _⟩ | h)
          · exact .inl h
          · exact .inr h

/-- **A region that draws its order, by facts.** -/
theorem wp_region {id : Nat} {a0 : Act} {w0 : World} (hm : P.follows .mixedOrders = true) (F : Nat → Fact) (nv : Nat) (al : List (Nat × Nat × (Value → Value))) (use : List (List (Nat × Nat))) (bef reads : List (List Nat)) (cons : List (Nat × Nat)) (hchk : Rc.check ops nv use bef reads cons = true)
    (hal : (al.all fun x => decide (x.1 < ops.size) && (nums use x.1).contains x.2.1) = true) (hsz : (ops.all fun o => (o.dst.map fun d => decide (d < a0.tmps.size)).getD true) = true)
    (X0 : Nat → Prop) (S0 : Nat → Nat → Prop) (h0 : Inv F cons (alias al) w0.drew X0 (fun i => ops.size ≤ i ∧ i < ops.size + nv) (fun _ => undef) S0 w0.drew)
    (hstep : ∀ a1, a1 = a0 → Rg.Steps (fun j o => ∀ V S w, Mod w0 w X0 → Use F V S w (reads.getD j []) → (∀ i ∈ nums use j, alias al i V (V i)) → Does1 P o V (putUse V (use.getD j []) a1) w (Good F cons (alias al) V S j w)) 0 ops.toList)
    (hend : ∀ V S w, Inv F cons (alias al) w0.drew X0 (fun i => i < ops.size + nv) V S w → Q .normal (putList ops.toList 0 V a0) w) : (Code.region id ops true).wp P Q a0 w0 := by
  refine wp_region_any hm ?_
  have hchk0 := hchk
  simp only [Rc.check, Bool.and_eq_true] at hchk
  obtain ⟨⟨⟨hdis, _⟩, hops⟩, _⟩ := hchk
  have hal2 : (al.all fun x => (nums use x.1).contains x.2.1) = true := List.all_eq_true.2 fun x hx => by
    have := List.all_eq_true.1 hal x hx
    simp only [Bool.and_eq_true] at this
    exact this.2
  have no : ∀ i, ¬ ((Array.replicate ops.size false).getD i false = true) := fun i h => by
    simp [Array.getD_eq_getD_getElem?, Array.getElem?_replicate] at h
    split at h <;> simp at h
  refine run_all (F := F) (cons := cons) nv use bef reads hchk0 (alias_dep hal2) a0 w0.drew X0 (fun j hj V v i f hm => ?_) (fun j o ho => ?_) (fun V S w a hi hf => ?_) _ _ (fun _ => undef) S0 _ _ (by simp) ?_ ?_ ?_ ?_
  · have := List.all_eq_true.1 hal _ hm
    simp only [Bool.and_eq_true, decide_eq_true_eq] at this
    omega
  · intro V S w hl hh he
    have h1 := (hstep a0 rfl).get j o (by simpa using ho) V S w hl.undrew (by simpa using hh) (by simpa using he)
    simp only [Nat.zero_add] at h1
    unfold Does1 at h1
    unfold Does
    cases hgd : o.guard with
    | none =>
      rw [hgd] at h1
      exact .inr ⟨by unfold Region.wanted; rw [hgd], h1⟩
    | some gw =>
      obtain ⟨g, want⟩ := gw
      rw [hgd] at h1
      simp only at h1
      have hy : ∀ x, V g = .bool x → yielded ops (putUse V (use.getD j []) a0).tmps g = some x := by
        intro x hx
        have h := List.all_eq_true.1 hops j (List.mem_range.2 (Array.getElem?_eq_some_iff.1 ho).1)
        simp only [ho, Bool.and_eq_true, hgd] at h
        obtain ⟨⟨⟨⟨⟨⟨h1, _⟩, _⟩, _⟩, h4⟩, _⟩, h6⟩ := h
        have h0 : ∀ x ∈ use.getD j [], (ops[x.1]?).bind (·.dst) = some x.2 := fun x hx => by
          have := List.all_eq_true.1 h1 x hx
          simp only [Bool.and_eq_true, beq_iff_eq] at this
          exact this.1
        have hb := Frm.putUse (V := V) (a0 := a0) hdis (use.getD j []) h0 (by simpa [nums] using h4)
        have h6 : g ∈ nums use j := by simpa using h6
        obtain ⟨y, hy, rfl⟩ := List.mem_map.1 h6
        obtain ⟨og, hog, hdg⟩ := Option.bind_eq_some_iff.1 (h0 y hy)
        have hlt := Array.all_eq_true_iff_forall_mem.1 hsz og (Array.mem_of_getElem? hog)
        simp only [hdg, Option.map_some, Option.getD_some, decide_eq_true_eq] at hlt
        have h7 := hb.put y.1 og y.2 hog hdg h6
        rw [if_pos hlt, hx] at h7
        unfold yielded
        rw [h0 y hy]
        simp only [Option.bind_some]
        rw [h7]
      rcases h1 with ⟨h1, h2⟩ | ⟨h1, h2⟩
      · exact .inr ⟨by unfold Region.wanted; rw [hgd]; simp only []; rw [hy _ h1]; exact beq_self_eq_true _, h2⟩
      · refine .inl ⟨?_, h2⟩
        unfold Region.wanted; rw [hgd]; simp only []; rw [hy _ h1]
        cases want <;> rfl
  · have h1 := Frm.putList (V := V) (a0 := a0) hdis ops.toList 0 a0 (fun k _ => by simp) ((Frm.refl ops V a0).congr (fun i => by simp) fun _ _ => rfl)
    have h2 : a = putList ops.toList 0 V a0 := hf.uniq (h1.congr (fun i => by simp) fun _ _ => rfl)
    rw [h2]; exact hend V S w hi
  · exact Nat.le_trans (List.length_filter_le _ _) (by simp)
  · intro k o _ hk
    exact absurd hk (no k)
  · have e : (fun i => (Array.replicate ops.size false).getD i false = true ∨ (ops.size ≤ i ∧ i < ops.size + nv)) = (fun i => ops.size ≤ i ∧ i < ops.size + nv) := funext fun i => propext ⟨fun h => h.resolve_left (no i), .inr⟩
    rw [e]; exact h0
  · exact (Frm.refl ops _ a0).congr (fun i => ⟨fun h => h.elim, fun h => absurd h (no i)⟩) fun _ _ => rfl
end

/-- What stands at the end. -/
theorem Inv.get {F : Nat → Fact} {cons : List (Nat × Nat)} {E : Nat → (Nat → Value) → Value → Prop} {W0 : World} {X0 : Nat → Prop} {V : Nat → Value} {S : Nat → Nat → Prop} {w : World} {n : Nat} (h : Inv F cons E W0 X0 (fun i => i < n) V S w) (i : Nat) (hi : i < n) (hc : cons.all (fun x => x.2 != i) = true) : (F i).holds (V i) w (S i) :=
  h.holds i ⟨hi, fun k _ hk => by have := List.all_eq_true.1 hc _ hk; simp at this⟩
theorem Inv.same {F : Nat → Fact} {cons : List (Nat × Nat)} {al : List (Nat × Nat × (Value → Value))} {W0 : World} {X0 : Nat → Prop} {V : Nat → Value} {S : Nat → Nat → Prop} {w : World} {n : Nat} (h : Inv F cons (alias al) W0 X0 (fun i => i < n) V S w) (j i : Nat) (f : Value → Value) (hj : j < n) (hm : (j, i, f) ∈ al) : V j = f (V i) := h.eqs j hj i f hm
/-- No objects of the caller's at the beginning. -/
theorem Inv.none {F : Nat → Fact} {cons : List (Nat × Nat)} {E : Nat → (Nat → Value) → Value → Prop} {w : World} {n : Nat} : Inv F cons E w (fun _ => False) (fun i => n ≤ i ∧ i < n + 0) (fun _ => undef) (fun _ _ => False) w :=
  ⟨Mod.refl _ _, fun i h => by have := h.1; omega, fun i b h => by have := h.1; omega, fun i j b h => by have := h.1; omega, fun j h => by omega⟩

/-- An exact value. -/
def val (x : Value) : Fact := ⟨fun v _ _ => v = x, fun _ _ _ _ h _ _ => h⟩
/-- Nothing. -/
def any : Fact := ⟨fun _ _ _ => True, fun _ _ _ _ h _ _ => h⟩
/-- A value, and an object that stands on these blocks. -/
def obj (x : Value) (B : Nat → Prop) (p : World → Prop) (hp : ∀ w w' : World, p w → w.heap.size ≤ w'.heap.size → (∀ b, B b → w'.heap[b]? = w.heap[b]?) → p w') : Fact :=
  ⟨fun v w S => v = x ∧ p w ∧ S = B, fun _ w w' S h hs hb => ⟨h.1, hp w w' h.2.1 hs (by rw [← h.2.2]; exact hb), h.2.2⟩⟩

section
variable {P : Program} {F : Nat → Fact} {cons : List (Nat × Nat)} {E : Nat → (Nat → Value) → Value → Prop} {V : Nat → Value} {S : Nat → Nat → Prop} {j : Nat} {o : Oper} {b : Act} {w : World}
/-- A value alone. -/
theorem step_val (x : Value) (hE : E j V x) (hg : Rg.Open o V) (h : (execOp b.eval o).run P w = .ok (.value x) w) (hf : (F j).holds x w (fun _ => False)) : Does1 P o V b w (Good F cons E V S j w) :=
  .of hg fun K hK => by unfold Oper.wp; rw [h]; exact hK x w ⟨_, Mod.refl _ _, hf, fun b hb => hb.elim, hE⟩
theorem step_not {i : Nat} {want : Bool} (hgd : o.guard = some (i, want)) (hV : V i = .bool (!want)) (hE : E j V undef) (hf : (F j).holds undef w (fun _ => False)) : Does1 P o V b w (Good F cons E V S j w) := by
  unfold Does1
  rw [hgd]
  exact .inr ⟨hV, _, Mod.refl _ _, hf, fun b hb => hb.elim, hE⟩
/-- New memory. -/
theorem step_new (v : Value) (w' : World) (T : Nat → Prop) (hE : E j V v) (hg : Rg.Open o V) (h : (execOp b.eval o).run P w = .ok (.value v) w') (hb : Below w.heap.size w w') (hf : (F j).holds v w' T) (ho : ∀ k, T k → w.heap.size ≤ k ∧ k < w'.heap.size) : Does1 P o V b w (Good F cons E V S j w) :=
  .of hg fun K hK => by
    unfold Oper.wp; rw [h]
    exact hK v w' ⟨T, Mod.of_below hb _, hf, fun k hk => ⟨.inr (ho k hk).1, (ho k hk).2⟩, hE⟩
/-- A call. -/
theorem step_call {f : FuncId} {xs : Array Operand} {ts : Array TypeId} (args : Array Value) (hent : ∀ args w, (callFunc f args).run P w = .ok (.enter f args) w) (hop : o.op = .call { callee := .value (.func f), args := xs, argTypes := ts }) (hargs : xs.map b.eval = args) (hE : ∀ v, E j V v) (hg : Rg.Open o V)
    (h : Calls P f args w fun e w' => ∃ v T, e = .returned v ∧ Mod w w' (Taken cons S j) ∧ (F j).holds v w' T ∧ ∀ k, T k → (Taken cons S j k ∨ w.heap.size ≤ k) ∧ k < w'.heap.size) : Does1 P o V b w (Good F cons E V S j w) :=
  .of hg fun K hK => by
    have he : (execOp b.eval o).run P w = .ok (.enter f args) w := by
      subst hargs
      have : execOp b.eval o = callFunc f (#[] ++ xs.map b.eval ++ #[]) := by
        obtain ⟨dst, op, ty, pos, after, guard⟩ := o
        simp only at hop
        subst hop
        rfl
      rw [this, hent]
      simp
    unfold Oper.wp; rw [he]
    refine h.mono ?_
    rintro e w' ⟨v, T, rfl, hb, hf, ho⟩
    exact hK v w' ⟨T, hb, hf, ho, hE v⟩
end
end Go.Proofs.Ytombmeppdhhjhaa.Rc

/-
  OWN WORK. Objects of whatever form: what stays while one is turned; rows that are kept beside it; its calls in regions that draw.
-/
namespace Go.Proofs.Ytombmeppdhhjhaa
open Go.RowKit Rc
namespace Ob

/-- An object: a value, what it is, and the blocks that it stands on. -/
structure Obj (σ : Type) where
  At : Value → σ → (Nat → Prop) → World → Prop
  keep : ∀ {v s S w w'}, At v s S w → w.heap.size ≤ w'.heap.size → (∀ b, S b → w'.heap[b]? = w.heap[b]?) → At v s S w'
  lt : ∀ {v s S w}, At v s S w → ∀ b, S b → b < w.heap.size
  ptr : ∀ {v s S w}, At v s S w → ∃ a, v = .pointer (some a)
/-- A call that turns it. -/
def Turns {σ : Type} (O : Obj σ) (v : Value) (s' : σ) (x : Value) (S : Nat → Prop) (w : World) (e : Ending) (w' : World) : Prop :=
  e = .returned x ∧ ∃ S', O.At v s' S' w' ∧ Mod w w' S ∧ ∀ b, S' b → S b ∨ w.heap.size ≤ b
/-- A row of bytes, apart from these blocks. -/
def Kept (W : World) (X : Nat → Prop) (A : Option Addr) (l : List UInt8) : Prop := Rd W A l ∧ (0 < l.length → ∀ b, A.map (·.block) = some b → ¬ X b)
/-- A row of bytes of a call's own: it may be written. -/
def Fresh (l : List UInt8) (w : World) (x : Value) (w' : World) : Prop := w'.ownsRow w.heap.size 5 1 x l.length (Lib.byteCells l)
theorem Fresh.form {l : List UInt8} {w : World} {x : Value} {w' : World} (h : Fresh l w x w') : ∃ X c, x = .slice X l.length c ∧ l.length ≤ c ∧ Rd w' X l ∧ (∀ b, X.map (·.block) = some b → w.heap.size ≤ b ∧ b < w'.heap.size) := by
  have h0 := own_base h
  rcases h.2 with ⟨rfl, h1⟩ | ⟨g, cap, cur, rfl, hb, hh, _⟩
  · have : l = [] := List.eq_nil_of_length_eq_zero (by omega)
    subst this
    exact ⟨none, 0, rfl, Nat.le_refl _, Rd.nil _ _, fun b hb => by simp at hb⟩
  · obtain ⟨X, c, e, hc, hr⟩ := bRow_form (show (bRow l).holds _ w' from h0)
    injection e with e1 e2 e3
    subst e1 e3
    refine ⟨_, _, rfl, hc, hr, fun b hb2 => ?_⟩
    simp only [Option.map_some, Option.some.injEq] at hb2
    subst hb2
    exact ⟨hb, (Array.getElem?_eq_some_iff.1 hh).1⟩
theorem Fresh.of_own {w w' : World} {l : List UInt8} {x : Value} {n : Nat} (h : w'.ownsRow w.heap.size 5 1 x n (Lib.byteCells l)) (hn : l.length = n) : Fresh l w x w' := by
  subst hn; exact h
theorem rd_mod {w w' : World} {A : Option Addr} {l : List UInt8} {S : Nat → Prop} (h : Rd w A l) (hm : Mod w w' S) (hA : 0 < l.length → ∀ b, A.map (·.block) = some b → ¬ S b) : Rd w' A l := by
  intro hl
  exact h.keep (fun p hp hb => by unfold World.cell?; rw [hm.block p.block hp (hA hl _ hb)]) hm.size hl
theorem rd_lt {w : World} {A : Option Addr} {l : List UInt8} (h : Rd w A l) (hl : 0 < l.length) {b : Nat} (hb : A.map (·.block) = some b) : b < w.heap.size := by
  obtain ⟨b', off, rfl, hlt, _⟩ := h hl
  simp at hb
  omega
theorem own_mod {w w' : World} {B n : Nat} {v : Value} {xs : List Value} {S : Nat → Prop} (h : w.ownsRow B 5 1 v n xs) (hm : Mod w w' S) (hv : ∀ b, v.ownBlock = some b → ¬ S b) : w'.ownsRow B 5 1 v n xs := by
  refine ⟨h.1, ?_⟩
  rcases h.2 with h2 | ⟨g, cap, cur, rfl, h4, h5, h6⟩
  · exact .inl h2
  · exact .inr ⟨g, cap, cur, rfl, h4, (hm.block g (Array.getElem?_eq_some_iff.1 h5).1 (hv g rfl)).trans h5, h6⟩
theorem str_run (w : World) (A : Option Addr) (l : List UInt8) (cap : Nat) (hr : Rd w A l) : (convert 29 9 (.slice A l.length cap)).run Try.prog w = .ok (.string (strOf l)) w := str_any w A l cap hr
/-- An object made behind a world w0, seen from W0. -/
structure One {σ : Type} (O : Obj σ) (v : Value) (w0 W0 : World) (X0 : Nat → Prop) (s : σ) (B : Nat → Prop) (w : World) : Prop where
  at_ : O.At v s B w
  mod : Mod W0 w X0
  sub : ∀ b, B b → X0 b ∨ W0.heap.size ≤ b
  low : Below w0.heap.size w0 w
  up : ∀ b, B b → w0.heap.size ≤ b
def Own {σ : Type} (O : Obj σ) (v : Value) (w0 W0 : World) (X0 : Nat → Prop) (s : σ) (w : World) : Prop := ∃ B, One O v w0 W0 X0 s B w
section
variable {σ : Type} {O : Obj σ} {v : Value} {w0 W0 : World} {X0 B : Nat → Prop} {s s' : σ} {w w' : World}
theorem mod_more {X : Nat → Prop} (h : Mod W0 w X0) (hm : Mod w w' X) (hX : ∀ b, X b → X0 b ∨ W0.heap.size ≤ b) : Mod W0 w' X0 :=
  ⟨hm.os.trans h.os, hm.tape.trans h.tape, hm.output.trans h.output, Nat.le_trans h.size hm.size, fun k hk hn => (hm.block k (Nat.lt_of_lt_of_le hk h.size) fun hx => by
    rcases hX k hx with h1 | h1
    · exact hn h1
    · omega).trans (h.block k hk hn)⟩
theorem low_more {X : Nat → Prop} (h : Below w0.heap.size w0 w) (hm : Mod w w' X) (hX : ∀ b, X b → w0.heap.size ≤ b) : Below w0.heap.size w0 w' := ((Mod.of_below h X).trans hm).below hX
theorem One.turn {S' : Nat → Prop} (h : One O v w0 W0 X0 s B w) (ha : O.At v s' S' w') (hm : Mod w w' B) (hs : ∀ b, S' b → B b ∨ w.heap.size ≤ b) : One O v w0 W0 X0 s' S' w' :=
  ⟨ha, mod_more h.mod hm h.sub, fun b hB => (hs b hB).elim (h.sub b) (fun h1 => .inr (Nat.le_trans h.mod.size h1)), low_more h.low hm h.up, fun b hB => (hs b hB).elim (h.up b) (fun h1 => Nat.le_trans h.low.size h1)⟩
theorem One.later (h : One O v w0 W0 X0 s B w) (hb : Below w.heap.size w w') : One O v w0 W0 X0 s B w' :=
  ⟨O.keep h.at_ hb.size (fun b hB => hb.block b (O.lt h.at_ b hB)), mod_more h.mod (Mod.of_below hb (fun _ => False)) (fun _ h => h.elim), h.sub, h.low.trans (hb.mono h.low.size), h.up⟩
/-- Seen from now. -/
theorem One.now (h : One O v w0 W0 X0 s B w) : One O v w0 w B s B w := ⟨h.at_, Mod.refl _ _, fun _ h => .inl h, h.low, h.up⟩
theorem One.kept (h : One O v w0 W0 X0 s B w) {A : Option Addr} {l : List UInt8} (k : Kept W0 X0 A l) : Kept w B A l :=
  ⟨rd_mod k.1 h.mod k.2, fun hl b hA hB => by
    rcases h.sub b hB with h1 | h1
    · exact k.2 hl b hA h1
    · have := rd_lt k.1 hl hA
      omega⟩
/-- A row that lay there before the object was made. -/
theorem One.arg (h : One O v w0 W0 X0 s B w) {A : Option Addr} {l : List UInt8} (k : Rd w0 A l) : Kept w B A l :=
  ⟨k.below h.low, fun hl b hA hB => by
    have := rd_lt k hl hA
    have := h.up b hB
    omega⟩
/-- A row made since. -/
theorem One.fresh (h : One O v w0 W0 X0 s B w) (_hb : Below w.heap.size w w') {l : List UInt8} {x : Value} (hf : Fresh l w x w') : ∃ X c, x = .slice X l.length c ∧ l.length ≤ c ∧ Kept w' B X l := by
  obtain ⟨X, c, rfl, hc, hr, hX⟩ := hf.form
  exact ⟨X, c, rfl, hc, hr, fun _ b hA hB => by
    have := (hX b hA).1
    have := O.lt h.at_ b hB
    omega⟩
theorem Kept.more {A : Option Addr} {l : List UInt8} (k : Kept w B A l) (hb : Below w.heap.size w w') : Kept w' B A l := ⟨k.1.below hb, k.2⟩
/-- A byte of a row beside it is written. -/
theorem One.poke (h : One O v w0 W0 X0 s B w) (hm : Mod w w' (fun k => ¬ B k ∧ w0.heap.size ≤ k)) : One O v w0 w' B s B w' :=
  ⟨O.keep h.at_ hm.size (fun b hB => hm.block b (O.lt h.at_ b hB) (fun hx => hx.1 hB)), Mod.refl _ _, fun _ h => .inl h, low_more h.low hm (fun _ hk => hk.2), h.up⟩
theorem One.own (h : One O v w0 W0 X0 s B w) : Own O v w0 W0 X0 s w := ⟨B, h⟩
end

/-- An object's blocks: those that it had, and new ones. -/
def Ups (B : Nat → Prop) (w0 : World) : Nat → Prop := fun b => B b ∨ w0.heap.size ≤ b
/-- A value, and the object behind it. -/
def turned {σ : Type} (O : Obj σ) (v : Value) (P : Nat → Prop) (x : Value) (s : σ) : Rc.Fact :=
  ⟨fun y w S => y = x ∧ ∃ S1, O.At v s S1 w ∧ (∀ b, S1 b → S b) ∧ ∀ b, S1 b → P b,
   fun y w w' S h hs hb => by
    obtain ⟨h1, S1, h2, h3, h4⟩ := h
    exact ⟨h1, S1, O.keep h2 hs (fun b h => hb b (h3 b h)), h3, h4⟩⟩
/-- A row of the call's own. -/
def frow (l : List UInt8) : Rc.Fact :=
  ⟨fun x w S => ∃ X c, x = .slice X l.length c ∧ l.length ≤ c ∧ Rd w X l ∧ ∀ b, X.map (·.block) = some b → S b,
   fun x w w' S h hs hb => by
    obtain ⟨X, c, h1, h2, h3, h4⟩ := h
    exact ⟨X, c, h1, h2, h3.keep (fun p hp hA => by unfold World.cell?; rw [hb p.block (h4 _ hA)]) hs, h4⟩⟩
section
variable {σ : Type} {F : Nat → Rc.Fact} {cons : List (Nat × Nat)} {E : Nat → (Nat → Value) → Value → Prop} {V : Nat → Value} {S : Nat → Nat → Prop} {j : Nat} {o : Oper} {b : Act} {w w0 : World} {B : Nat → Prop}
theorem step_turn (O : Obj σ) {v x : Value} {s s' : σ} {i : Nat} {fn : FuncId} {xs : Array Operand} {ts : Array TypeId} (args : Array Value) (hent : ∀ args w, (callFunc fn args).run Try.prog w = .ok (.enter fn args) w)
    (hop : o.op = .call { callee := .value (.func fn), args := xs, argTypes := ts }) (hargs : xs.map b.eval = args) (hF : F j = turned O v (Ups B w0) x s') (hi : (j, i) ∈ cons) (hu : ∃ S1, O.At v s S1 w ∧ (∀ b, S1 b → S i b) ∧ ∀ b, S1 b → Ups B w0 b)
    (hE : ∀ v, E j V v) (hg : Rg.Open o V) (hw : w0.heap.size ≤ w.heap.size) (hcall : ∀ S1, O.At v s S1 w → (∀ b, S1 b → S i b) → (∀ b, S1 b → Ups B w0 b) → Calls Try.prog fn args w (Turns O v s' x S1 w)) : Rg.Does1 Try.prog o V b w (Rc.Good F cons E V S j w) := by
  obtain ⟨S1, hat, hsub, hup⟩ := hu
  refine Rc.step_call args hent hop hargs hE hg ((hcall S1 hat hsub hup).mono ?_)
  rintro e w' ⟨rfl, S', hat', hm, hS'⟩
  have ht : ∀ b, S1 b → Taken cons S j b := fun b hb => ⟨i, hi, hsub b hb⟩
  refine ⟨_, S', rfl, hm.mono fun k _ hk => ht k hk, ?_, fun k hk => ⟨(hS' k hk).imp (ht k) id, O.lt hat' k hk⟩⟩
  rw [hF]
  exact ⟨rfl, S', hat', fun _ h => h, fun b hb => (hS' b hb).elim (hup b) (fun h => .inr (Nat.le_trans hw h))⟩
/-- A call that makes a row of its own. -/
theorem step_frow (l : List UInt8) {fn : FuncId} {xs : Array Operand} {ts : Array TypeId} (args : Array Value) (hent : ∀ args w, (callFunc fn args).run Try.prog w = .ok (.enter fn args) w)
    (hop : o.op = .call { callee := .value (.func fn), args := xs, argTypes := ts }) (hargs : xs.map b.eval = args) (hF : F j = frow l) (hE : ∀ v, E j V v) (hg : Rg.Open o V)
    (hcall : Calls Try.prog fn args w fun e w' => ∃ x, e = .returned x ∧ Fresh l w x w' ∧ Below w.heap.size w w') : Rg.Does1 Try.prog o V b w (Rc.Good F cons E V S j w) := by
  refine Rc.step_call args hent hop hargs hE hg (hcall.mono ?_)
  rintro e w' ⟨x, rfl, hf, hb⟩
  obtain ⟨X, c, rfl, hc, hr, hX⟩ := hf.form
  refine ⟨_, fun k => X.map (·.block) = some k, rfl, Mod.of_below hb _, ?_, fun k hk => ⟨.inr (hX k hk).1, (hX k hk).2⟩⟩
  rw [hF]; exact ⟨X, c, rfl, hc, hr, fun _ h => h⟩
/-- A call that tells a value, and makes at most memory that nobody has. -/
theorem step_tell (x : Value) {fn : FuncId} {xs : Array Operand} {ts : Array TypeId} (args : Array Value) (hent : ∀ args w, (callFunc fn args).run Try.prog w = .ok (.enter fn args) w)
    (hop : o.op = .call { callee := .value (.func fn), args := xs, argTypes := ts }) (hargs : xs.map b.eval = args) (hF : F j = Rc.val x) (hE : ∀ v, E j V v) (hg : Rg.Open o V) (hcall : Calls Try.prog fn args w fun e w' => e = .returned x ∧ Below w.heap.size w w') : Rg.Does1 Try.prog o V b w (Rc.Good F cons E V S j w) := by
  refine Rc.step_call args hent hop hargs hE hg (hcall.mono ?_)
  rintro e w' ⟨rfl, hb⟩
  exact ⟨x, fun _ => False, rfl, Mod.of_below hb _, by rw [hF]; rfl, fun _ h => h.elim⟩
/-- A row of noughts that is made. -/
theorem make_row (w : World) (n : Nat) (hn : n ≤ 1000000) : ∃ w' z, (Instr.makeSlice 29 (.int .i64 (n : Int)) (.int .i64 (n : Int))).run Try.prog w = .ok (.slice (some ⟨w.heap.size, 0, none⟩) n n) w' ∧ Below w.heap.size w w' ∧ z = List.replicate n 0 ∧ Rd w' (some ⟨w.heap.size, 0, none⟩) z ∧ w.heap.size < w'.heap.size := by
  obtain ⟨i0, hi, hz0, hz1, hz2⟩ := info_parts Try.infoU8
  obtain ⟨w5, hrun, r1, r2⟩ := run_make_full (P := Try.prog) w w.heap.size 29 5 i0 (.int .u8 0) 1 Try.underlying29 hi hz0 hz1 .i64 .i64 n (by rw [hz2]; omega) (by unfold maxLen; omega) (Nat.le_refl _)
  rw [made_bytes] at r1
  have hl := own_lt r1 rfl
  obtain ⟨z, hz⟩ : ∃ z : List UInt8, z = List.replicate n 0 := ⟨_, rfl⟩
  have hzl : z.length = n := by rw [hz, List.length_replicate]
  rw [← hz] at r1
  obtain ⟨X', c', e, _, hr⟩ := bRow_form (v := .slice (some ⟨w.heap.size, 0, none⟩) n n) (l := z) (show _ by rw [← hzl] at r1; show w5.ownsRow 0 _ 1 _ z.length _; rw [hzl]; rw [hzl] at r1; exact own_base r1)
  injection e with e1
  subst e1
  exact ⟨w5, z, hrun, (Below.refl _ _).grown r2 (Nat.le_refl _) (fun k hk => by cases hk), hz, hr, hl.2⟩
/-- A slice of which the length alone is known. -/
def slen (n : Nat) : Rc.Fact := ⟨fun x _ _ => ∃ X c, x = .slice X n c, fun _ _ _ _ h _ _ => h⟩
theorem step_slen (n : Nat) {fn : FuncId} {xs : Array Operand} {ts : Array TypeId} (args : Array Value) (hent : ∀ args w, (callFunc fn args).run Try.prog w = .ok (.enter fn args) w)
    (hop : o.op = .call { callee := .value (.func fn), args := xs, argTypes := ts }) (hargs : xs.map b.eval = args) (hF : F j = slen n) (hE : ∀ v, E j V v) (hg : Rg.Open o V) (hcall : Calls Try.prog fn args w fun e w' => ∃ X c, e = .returned (.slice X n c) ∧ Below w.heap.size w w') : Rg.Does1 Try.prog o V b w (Rc.Good F cons E V S j w) := by
  refine Rc.step_call args hent hop hargs hE hg (hcall.mono ?_)
  rintro e w' ⟨X, c, rfl, hb⟩
  exact ⟨_, fun _ => False, rfl, Mod.of_below hb _, by rw [hF]; exact ⟨X, c, rfl⟩, fun _ h => h.elim⟩
theorem rc_mv (x : Value) {al : List (Nat × Nat × (Value → Value))} (h : (execOp b.eval o).run Try.prog w = .ok (.value x) w) (hF : F j = Rc.val x) (ha : (al.all fun x => x.1 != j) = true) (hg : Rg.Open o V) : Rg.Does1 Try.prog o V b w (Rc.Good F cons (Rg.alias al) V S j w) :=
  Rc.step_val x (Rg.alias_none ha V _) hg h (by rw [hF]; rfl)
theorem rc_slh {al : List (Nat × Nat × (Value → Value))} {t : TypeId} {x y : Operand} {X Y v : Value} (hop : o.op = .slice t x none (some y) none) (hx : b.eval x = X) (hy : b.eval y = Y) (h : (Instr.sliceAt t X none (some Y) none).run Try.prog w = .ok v w) (hF : F j = Rc.val v) (ha : (al.all fun x => x.1 != j) = true) (hg : Rg.Open o V) :
    Rg.Does1 Try.prog o V b w (Rc.Good F cons (Rg.alias al) V S j w) := by
  refine rc_mv v ?_ hF ha hg
  obtain ⟨dst, op, ty, pos, after, guard⟩ := o
  simp only at hop
  subst hop
  simp only [execOp, Option.map_some, Option.map_none, hx, hy]
  simp [h, Result.andThen]
theorem rc_sll {al : List (Nat × Nat × (Value → Value))} {t : TypeId} {x y : Operand} {X Y v : Value} (hop : o.op = .slice t x (some y) none none) (hx : b.eval x = X) (hy : b.eval y = Y) (h : (Instr.sliceAt t X (some Y) none none).run Try.prog w = .ok v w) (hF : F j = Rc.val v) (ha : (al.all fun x => x.1 != j) = true) (hg : Rg.Open o V) :
    Rg.Does1 Try.prog o V b w (Rc.Good F cons (Rg.alias al) V S j w) := by
  refine rc_mv v ?_ hF ha hg
  obtain ⟨dst, op, ty, pos, after, guard⟩ := o
  simp only at hop
  subst hop
  simp only [execOp, Option.map_some, Option.map_none, hx, hy]
  simp [h, Result.andThen]
theorem rc_sllh {al : List (Nat × Nat × (Value → Value))} {t : TypeId} {x y z : Operand} {X Y Z v : Value} (hop : o.op = .slice t x (some y) (some z) none) (hx : b.eval x = X) (hy : b.eval y = Y) (hz : b.eval z = Z) (h : (Instr.sliceAt t X (some Y) (some Z) none).run Try.prog w = .ok v w) (hF : F j = Rc.val v) (ha : (al.all fun x => x.1 != j) = true) (hg : Rg.Open o V) :
    Rg.Does1 Try.prog o V b w (Rc.Good F cons (Rg.alias al) V S j w) := by
  refine rc_mv v ?_ hF ha hg
  obtain ⟨dst, op, ty, pos, after, guard⟩ := o
  simp only at hop
  subst hop
  simp only [execOp, Option.map_some, Option.map_none, hx, hy, hz]
  simp [h, Result.andThen]
theorem rc_str (l : List UInt8) {al : List (Nat × Nat × (Value → Value))} {x : Operand} {A : Option Addr} {m c : Nat} (hop : o.op = .convert 29 9 x) (hx : b.eval x = .slice A m c) (hm : l.length = m) (hr : Rd w A l) (hF : F j = Rc.val (.string (strOf l))) (ha : (al.all fun x => x.1 != j) = true) (hg : Rg.Open o V) :
    Rg.Does1 Try.prog o V b w (Rc.Good F cons (Rg.alias al) V S j w) := by
  subst hm
  refine rc_mv (.string (strOf l)) ?_ hF ha hg
  have := str_any w A l c hr
  obtain ⟨dst, op, ty, pos, after, guard⟩ := o
  simp only at hop
  subst hop
  simp only [execOp, hx]
  go_simp
theorem step_make (n : Nat) (l : List UInt8) (hop : o.op = .makeSlice 29 (.const (.int .i64 (n : Int))) (.const (.int .i64 (n : Int)))) (hn : n ≤ 1000000) (hF : F j = frow l) (hE : ∀ v, E j V v) (hg : Rg.Open o V) (hl : l = List.replicate n 0 := by rfl) : Rg.Does1 Try.prog o V b w (Rc.Good F cons E V S j w) := by
  obtain ⟨w', z, hrun, hb, hz, hr, hlt⟩ := make_row w n hn
  rw [← hl] at hz
  subst hz
  refine Rc.step_new (.slice (some ⟨w.heap.size, 0, none⟩) n n) w' (fun k => k = w.heap.size) (hE _) hg ?_ hb ?_ (fun k hk => by subst hk; exact ⟨Nat.le_refl _, hlt⟩)
  · obtain ⟨dst, op, ty, pos, after, guard⟩ := o
    simp only at hop
    subst hop
    simp [execOp, Act.eval, hrun, Result.andThen]
  · rw [hF]
    have hzl : z.length = n := by rw [hl, List.length_replicate]
    exact ⟨_, n, by rw [hzl], by omega, hr, fun b hb => by simp at hb; exact hb.symm⟩
end
theorem one_inv {σ : Type} (O : Obj σ) {v : Value} {s : σ} {B : Nat → Prop} {w : World} (h : O.At v s B w) (F : Nat → Rc.Fact) (cons : List (Nat × Nat)) (n : Nat) (hF : F n = turned O v (Ups B w) undef s) :
    Rc.Inv F cons (Rg.alias []) w.drew B (fun i => n ≤ i ∧ i < n + 1) (fun _ => undef) (fun _ b => B b) w.drew := by
  refine ⟨Mod.refl _ _, fun i hi => ?_, fun i b hi hb => ⟨O.lt h b hb, .inl hb⟩, fun i k b hi hk hne _ => ?_, fun j _ => fun i f hm => by simp at hm⟩
  · obtain rfl : i = n := by have := hi.1; omega
    rw [hF]; exact ⟨rfl, B, O.keep h (Nat.le_refl _) (fun _ _ => rfl), fun _ h => h, fun _ h => .inl h⟩
  · have := hi.1; have := hk.1; omega
theorem One.after {σ : Type} {O : Obj σ} {v : Value} {w0 W0 : World} {X0 : Nat → Prop} {s s' : σ} {B : Nat → Prop} {w w2 : World} (h : One O v w0 W0 X0 s B w) (hm : Mod w w2 B) {S : Nat → Prop} (hu : ∃ S1, O.At v s' S1 w2 ∧ (∀ b, S1 b → S b) ∧ ∀ b, S1 b → Ups B w b) : Own O v w0 W0 X0 s' w2 := by
  obtain ⟨S1, hat, _, hup⟩ := hu
  exact ⟨S1, h.turn hat hm hup⟩
/-- No object at all: for regions that only read rows. -/
def nil : Obj Unit where
  At v _ S _ := (∃ a, v = .pointer (some a)) ∧ ∀ b, ¬ S b
  keep h _ _ := h
  lt h b hb := absurd hb (h.2 b)
  ptr h := h.1
theorem nil_one (a : Addr) (w : World) : One nil (.pointer (some a)) w w (fun _ => False) () (fun _ => False) w := ⟨⟨⟨a, rfl⟩, fun _ h => h⟩, Mod.refl _ _, fun _ h => h.elim, Below.refl _ _, fun _ h => h.elim⟩
end Ob
end Go.Proofs.Ytombmeppdhhjhaa

/-
  OWN WORK. Rows of rows of bytes: as they are read, and as they are a call's own.
-/
namespace Go.Proofs.Ytombmeppdhhjhaa
open Go.RowKit Rc

theorem Try.infoSl : (Try.prog.info? 29).map (fun i => (i.zero, i.size, i.bytes)) = some (some (.slice none 0 0), 1, 24) := by kernel_rfl
theorem info_sl : ∃ i0, Try.prog.info? 29 = some i0 ∧ i0.zero = some (.slice none 0 0) ∧ i0.size = 1 ∧ i0.bytes = 24 := by
  have h := Try.infoSl
  simp only [Option.map_eq_some_iff, Prod.mk.injEq] at h
  obtain ⟨i0, h1, h2, h3, h4⟩ := h
  exact ⟨i0, h1, h2, h3, h4⟩
theorem rows_size (w : World) : (sizeOf (Try.prog.elem 22)).run Try.prog w = .ok 1 w := by kernel_rfl
theorem rows_under : Try.prog.underlying 22 = some (.slice (Try.prog.elem 22)) := by kernel_rfl
theorem rows_under2 : Try.prog.underlying 22 = some (.slice 29) := by kernel_rfl

/-- A slice's address, behind which these rows stand. -/
def RdL (w : World) (A : Option Addr) (L : List (List UInt8)) : Prop :=
  0 < L.length → ∃ b off, A = some ⟨b, off, none⟩ ∧ b < w.heap.size ∧ ∀ j x, L[j]? = some x → ∃ A' c, w.cell? ⟨b, off + j, none⟩ = some (.slice A' x.length c) ∧ x.length ≤ c ∧ Rd w A' x
theorem RdL.nil (w : World) (A : Option Addr) : RdL w A [] := fun h => absurd h (by simp)
theorem RdL.below {w w' : World} {A : Option Addr} {L : List (List UInt8)} (h : RdL w A L) (hb : Below w.heap.size w w') : RdL w' A L := by
  intro hl
  obtain ⟨b, off, rfl, hlt, hc⟩ := h hl
  refine ⟨b, off, rfl, Nat.lt_of_lt_of_le hlt hb.size, fun j x hx => ?_⟩
  obtain ⟨A', c, h1, h2, h3⟩ := hc j x hx
  exact ⟨A', c, (hb.cell (p := ⟨b, off + j, none⟩) hlt).trans h1, h2, h3.below hb⟩
theorem RdL.later {w w' : World} {A : Option Addr} {L : List (List UInt8)} (h : RdL w A L) (hb : Later w w') : RdL w' A L := h.below hb
theorem RdL.cut {w : World} {A : Option Addr} {L : List (List UInt8)} (h : RdL w A L) (k cap : Nat) (hc : L.length ≤ cap) : RdL w (cutA A k cap) (L.drop k) := by
  intro hl
  rw [List.length_drop] at hl
  obtain ⟨b, off, rfl, hlt, hcell⟩ := h (by omega)
  unfold cutA
  rw [if_neg (by omega)]
  refine ⟨b, off + k, by simp [add_plain], hlt, fun j x hx => ?_⟩
  rw [List.getElem?_drop] at hx
  rw [Nat.add_assoc]
  exact hcell _ _ hx
theorem RdL.take {w : World} {A : Option Addr} {L : List (List UInt8)} (h : RdL w A L) (k : Nat) : RdL w A (L.take k) := by
  intro hl
  rw [List.length_take] at hl
  obtain ⟨b, off, rfl, hlt, hcell⟩ := h (by omega)
  refine ⟨b, off, rfl, hlt, fun j x hx => hcell j x ?_⟩
  rw [List.getElem?_take] at hx
  split at hx
  · exact hx
  · cases hx
theorem RdL.at_ {w : World} {A : Option Addr} {L : List (List UInt8)} (h : RdL w A L) (j : Nat) (hj : j < L.length) : ∃ b off x A' c, A = some ⟨b, off, none⟩ ∧ L[j]? = some x ∧ w.cell? ⟨b, off + j, none⟩ = some (.slice A' x.length c) ∧ x.length ≤ c ∧ Rd w A' x := by
  obtain ⟨b, off, hA, _, hc⟩ := h (by omega)
  obtain ⟨A', c, h1, h2, h3⟩ := hc j L[j] (List.getElem?_eq_getElem hj)
  exact ⟨b, off, L[j], A', c, hA, List.getElem?_eq_getElem hj, h1, h2, h3⟩
theorem rows_l (w : World) (A : Option Addr) (L : List (List UInt8)) (cap k : Nat) (hk : k ≤ L.length) : (Instr.sliceAt 22 (.slice A L.length cap) (some (.int .i64 k)) none none).run Try.prog w = .ok (.slice (cutA A k cap) (L.drop k).length (cap - k)) w := by
  rw [run_sliceAt_slice w _ _ _ _ _ rows_under, run_slice_l w _ _ _ _ rows_under .i64 k (by omega) (by omega), rows_size, List.length_drop]
  simp [Result.andThen, sliced, cutA]
theorem rows_h (w : World) (A : Option Addr) (L : List (List UInt8)) (cap k : Nat) (hk : k ≤ L.length) (hc : L.length ≤ cap) : (Instr.sliceAt 22 (.slice A L.length cap) none (some (.int .i64 k)) none).run Try.prog w = .ok (.slice A (L.take k).length cap) w := by
  rw [run_sliceAt_slice w _ _ _ _ _ rows_under, run_slice_h w _ _ _ _ rows_under .i64 k (by omega) (by omega), rows_size, List.length_take, Nat.min_eq_left hk]
  have e : ∀ a : Addr, a.add 0 = a := fun a => by unfold Addr.add; simp
  cases A <;> simp [Result.andThen, sliced, e]

/-- A row of rows of the call's own: its blocks are of S; a row in it is one of S, or one of those that are there for good. -/
def LOwn (B : Nat) (O : Option Addr → List UInt8 → Prop) (x : Value) (L : List (List UInt8)) (S : Nat → Prop) (w : World) : Prop :=
  ∃ xs : List Value, w.ownsRow B 29 1 x L.length xs ∧ (∀ b, x.ownBlock = some b → S b) ∧ ∀ (j : Nat) (y : List UInt8), L[j]? = some y → ∃ A c, xs[j]? = some (Value.slice A y.length c) ∧ y.length ≤ c ∧ ((Rd w A y ∧ ∀ b, A.map (·.block) = some b → S b ∧ x.ownBlock ≠ some b) ∨ O A y)
/-- No rows for good. -/
def noOld : Option Addr → List UInt8 → Prop := fun _ _ => False
theorem LOwn.mono {B B' : Nat} {O O' : Option Addr → List UInt8 → Prop} {x : Value} {L : List (List UInt8)} {S S' : Nat → Prop} {w : World} (h : LOwn B O x L S w) (hB : B' ≤ B) (hO : ∀ A y, O A y → O' A y) (hS : ∀ b, S b → S' b) : LOwn B' O' x L S' w := by
  obtain ⟨xs, h1, h2, h3⟩ := h
  refine ⟨xs, ⟨h1.1, ?_⟩, fun b hb => hS b (h2 b hb), fun j y hj => ?_⟩
  · rcases h1.2 with h | ⟨g, cap, cur, h4, h5, h6⟩
    · exact .inl h
    · exact .inr ⟨g, cap, cur, h4, by omega, h6⟩
  · obtain ⟨A, c, h4, h5, h6⟩ := h3 j y hj
    refine ⟨A, c, h4, h5, h6.imp (fun h => ⟨h.1, fun b hb => ⟨hS b (h.2 b hb).1, (h.2 b hb).2⟩⟩) (hO A y)⟩
theorem LOwn.keep {B : Nat} {O : Option Addr → List UInt8 → Prop} {x : Value} {L : List (List UInt8)} {S : Nat → Prop} {w w' : World} (h : LOwn B O x L S w) (hs : w.heap.size ≤ w'.heap.size) (hb : ∀ b, S b → w'.heap[b]? = w.heap[b]?) : LOwn B O x L S w' := by
  obtain ⟨xs, h1, h2, h3⟩ := h
  refine ⟨xs, ⟨h1.1, ?_⟩, h2, fun j y hj => ?_⟩
  · rcases h1.2 with h | ⟨g, cap, cur, h4, h5, h6, h7⟩
    · exact .inl h
    · subst h4
      exact .inr ⟨g, cap, cur, rfl, h5, (hb g (h2 g rfl)).trans h6, h7⟩
  · obtain ⟨A, c, h4, h5, h6⟩ := h3 j y hj
    refine ⟨A, c, h4, h5, h6.imp (fun h => ⟨h.1.keep (fun p hp hA => by unfold World.cell?; rw [hb p.block (h.2 _ hA).1]) hs, h.2⟩) id⟩
theorem LOwn.nil (B : Nat) (O : Option Addr → List UInt8 → Prop) (S : Nat → Prop) (w : World) : LOwn B O (.slice none 0 0) [] S w := ⟨[], ⟨rfl, .inl ⟨rfl, rfl⟩⟩, (fun b hb => by simp [Value.ownBlock] at hb), (fun j y hj => by simp at hj)⟩
/-- It is read. -/
theorem LOwn.rd {B : Nat} {O : Option Addr → List UInt8 → Prop} {x : Value} {L : List (List UInt8)} {S : Nat → Prop} {w : World} (h : LOwn B O x L S w) (hO : ∀ A y, O A y → Rd w A y) : ∃ A c, x = .slice A L.length c ∧ L.length ≤ c ∧ RdL w A L ∧ (∀ b, A.map (·.block) = some b → S b) := by
  obtain ⟨xs, h1, h2, h3⟩ := h
  rcases h1.2 with ⟨rfl, h0⟩ | ⟨g, cap, cur, rfl, hb, hg, hn, hm, hsz, hx⟩
  · exact ⟨none, 0, by rw [h0], by omega, fun hp => by omega, fun b hb => by simp at hb⟩
  · refine ⟨_, cap, rfl, hn, fun _ => ⟨g, 0, rfl, ?_, fun j y hj => ?_⟩, fun b hb => h2 b (by simpa [Value.ownBlock] using hb)⟩
    · exact (Array.getElem?_eq_some_iff.1 hg).1
    · obtain ⟨A, c, h4, h5, h6⟩ := h3 j y hj
      refine ⟨A, c, ?_, h5, h6.elim (·.1) (hO A y)⟩
      rw [cell_of_row w g (0 + j) cur _ _ hg, Nat.zero_add]
      rw [← hx, List.getElem?_take] at h4
      split at h4
      · simpa using h4
      · cases h4
/-- One row in a block of its own. -/
theorem LOwn.one {w : World} {A : Option Addr} {y : List UInt8} {c : Nat} {O : Option Addr → List UInt8 → Prop} {S : Nat → Prop} (hc : y.length ≤ c) (hr : (Rd w A y ∧ ∀ b, A.map (·.block) = some b → S b ∧ b < w.heap.size) ∨ O A y) : LOwn w.heap.size O (.slice (some ⟨w.heap.size, 0, none⟩) 1 1) [y] (fun b => S b ∨ b = w.heap.size) (w.alloc (.cells #[.slice A y.length c] 29)) := by
  refine ⟨[.slice A y.length c], ⟨rfl, .inr ⟨w.heap.size, 1, #[.slice A y.length c], rfl, Nat.le_refl _, heap_alloc_new w _, Nat.le_refl _, by unfold maxLen; omega, rfl, rfl⟩⟩, fun b hb => .inr (by simpa [Value.ownBlock] using hb.symm), fun j z hj => ?_⟩
  have hj0 : j = 0 := by
    have := (List.getElem?_eq_some_iff.1 hj).1
    simp at this
    exact this
  subst hj0
  obtain rfl : y = z := by simpa using hj
  refine ⟨A, c, rfl, hc, hr.imp (fun h => ⟨h.1.below (below_new w _), fun b hb => ⟨.inl (h.2 b hb).1, ?_⟩⟩) id⟩
  have := (h.2 b hb).2
  simp only [Value.ownBlock, ne_eq, Option.some.injEq]
  omega
set_option maxRecDepth 100000 in
/-- An append of rows behind rows. -/
theorem run_append_rows {w : World} {B : Nat} {O : Option Addr → List UInt8 → Prop} {v x : Value} {L L2 : List (List UInt8)} {S S2 : Nat → Prop} (ty : TypeId) (h : LOwn B O v L S w) (h2 : LOwn B O x L2 S2 w) (hpos : 0 < L2.length) (hsep : ∀ b, S b → ¬ S2 b) (hlt : ∀ b, S b ∨ S2 b → b < w.heap.size) (hB : B ≤ w.heap.size) (hn : L.length + L2.length ≤ 1000000000) :
    ∃ v' w', (Builtin.append_ #[22, 22] ty #[v, x]).run Try.prog w = .ok v' w' ∧ LOwn B O v' (L ++ L2) (fun b => (S b ∨ S2 b) ∨ v'.ownBlock = some b) w' ∧ w.grownBy w' v.ownBlock ∧ (v'.ownBlock = v.ownBlock ∨ v'.ownBlock = some w.heap.size) ∧ (∀ b, v'.ownBlock = some b → b < w'.heap.size) := by
  obtain ⟨i0, hi, hz0, hz1, hz2⟩ := info_sl
  obtain ⟨xs, h3, h4, h5⟩ := h
  obtain ⟨ys, h6, h7, h8⟩ := h2
  rcases h6.2 with ⟨rfl, h0⟩ | ⟨g, cap, cur, rfl, hb, hg, hnc, hm, hsz, hx⟩
  · omega
  have hyl : ys.length = L2.length := by have := h6.1; omega
  have hcell : ∀ j u, ys[j]? = some u → w.cell? ((⟨g, 0, none⟩ : Addr).add j) = some u := by
    intro j u hu
    rw [add_plain, cell_of_row w g (0 + j) cur _ _ hg, Nat.zero_add]
    rw [← hx, List.getElem?_take] at hu
    split at hu
    · simpa using hu
    · cases hu
  have hone : ∀ u ∈ ys, u.oneCell' = true := by
    intro u hu
    obtain ⟨j, hj, rfl⟩ := List.getElem_of_mem hu
    obtain ⟨A, c, h9, _⟩ := h8 j (L2[j]'(by omega)) (List.getElem?_eq_getElem (by omega))
    rw [List.getElem?_eq_getElem hj] at h9
    injection h9 with h9
    rw [h9]; rfl
  obtain ⟨v', w', r1, r2, r3, _, r5⟩ := run_append_own_at (P := Try.prog) (w := w) B 22 ty 29 i0 (.slice none 0 0) 1 24 rows_under2 hi hz0 hz1 hz2 rfl (by decide) v L.length xs h3 ⟨g, 0, none⟩ L2.length cap ys (by omega) hcell hone (by unfold maxLen; omega) (by omega) hB
  have hg2 : g < w.heap.size := (Array.getElem?_eq_some_iff.1 hg).1
  have hS2 : S2 g := h7 g rfl
  refine ⟨v', w', r1, ⟨xs ++ ys, by rw [List.length_append]; exact r2, fun b hb => ?_, fun j y hj => ?_⟩, r3, r5, fun b hb => ?_⟩
  · exact .inr hb
  · have old : ∀ A : Option Addr, Rd w A y → (∀ b, A.map (·.block) = some b → (S b ∨ S2 b) ∧ v.ownBlock ≠ some b) → Rd w' A y ∧ ∀ b, A.map (·.block) = some b → ((S b ∨ S2 b) ∨ v'.ownBlock = some b) ∧ v'.ownBlock ≠ some b := by
      intro A hr hA
      refine ⟨hr.keep (fun p hp hb => ?_) r3.size, fun b hb => ⟨.inl (hA b hb).1, fun e => ?_⟩⟩
      · exact World.cell?_of_block (r3.block p.block hp (fun e => (hA _ hb).2 e.symm))
      · rcases r5 with e2 | e2
        · exact (hA b hb).2 (e2 ▸ e)
        · rw [e2] at e; injection e with e
          have := hlt b (hA b hb).1
          omega
    by_cases hj1 : j < L.length
    · rw [List.getElem?_append_left hj1] at hj
      obtain ⟨A, c, h9, h10, h11⟩ := h5 j y hj
      refine ⟨A, c, ?_, h10, h11.imp (fun h => old A h.1 fun b hb => ⟨.inl (h.2 b hb).1, (h.2 b hb).2⟩) id⟩
      rw [List.getElem?_append_left (by have := h3.1; omega)]
      exact h9
    · rw [List.getElem?_append_right (by omega)] at hj
      obtain ⟨A, c, h9, h10, h11⟩ := h8 _ y hj
      refine ⟨A, c, ?_, h10, h11.imp (fun h => old A h.1 fun b hb => ⟨.inr (h.2 b hb).1, fun e => hsep b (h4 b e) (h.2 b hb).1⟩) id⟩
      have hxl : xs.length = L.length := by have := h3.1; omega
      rw [List.getElem?_append_right (by omega), hxl]
      exact h9
  · rcases r2.2 with ⟨rfl, _⟩ | ⟨g', cap', cur', rfl, _, hg', _⟩
    · cases hb
    · simp only [Value.ownBlock, Option.some.injEq] at hb
      subst hb
      exact (Array.getElem?_eq_some_iff.1 hg').1

/-- A row of rows that a call hands out. -/
def LNew (L : List (List UInt8)) (w : World) (x : Value) (w' : World) : Prop := LOwn w.heap.size noOld x L (fun b => w.heap.size ≤ b ∧ b < w'.heap.size) w'
theorem LNew.form {L : List (List UInt8)} {w : World} {x : Value} {w' : World} (h : LNew L w x w') : ∃ A c, x = .slice A L.length c ∧ L.length ≤ c ∧ RdL w' A L := by
  obtain ⟨A, c, h1, h2, h3, _⟩ := LOwn.rd h (fun _ _ h => h.elim)
  exact ⟨A, c, h1, h2, h3⟩

def LOut (L : List (List UInt8)) (w : World) (e : Ending) (w' : World) : Prop := ∃ x, e = .returned x ∧ LNew L w x w' ∧ Below w.heap.size w w'
/-- A row of rows, in a region. -/
def lrow (L : List (List UInt8)) : Rc.Fact := ⟨fun x w S => LOwn 0 noOld x L S w, fun _ _ _ _ h hs hb => h.keep hs hb⟩
section
variable {F : Nat → Rc.Fact} {cons : List (Nat × Nat)} {E : Nat → (Nat → Value) → Value → Prop} {V : Nat → Value} {S : Nat → Nat → Prop} {j : Nat} {o : Oper} {b : Act} {w : World}
theorem step_lcall (L : List (List UInt8)) {fn : FuncId} {xs : Array Operand} {ts : Array TypeId} (args : Array Value) (hent : ∀ args w, (callFunc fn args).run Try.prog w = .ok (.enter fn args) w)
    (hop : o.op = .call { callee := .value (.func fn), args := xs, argTypes := ts }) (hargs : xs.map b.eval = args) (hF : F j = lrow L) (hE : ∀ v, E j V v) (hg : Rg.Open o V)
    (hcall : Calls Try.prog fn args w (LOut L w)) : Rg.Does1 Try.prog o V b w (Rc.Good F cons E V S j w) := by
  refine Rc.step_call args hent hop hargs hE hg (hcall.mono ?_)
  rintro e w' ⟨x, rfl, hf, hb⟩
  refine ⟨_, fun k => w.heap.size ≤ k ∧ k < w'.heap.size, rfl, Mod.of_below hb _, ?_, fun k hk => ⟨.inr hk.1, hk.2⟩⟩
  rw [hF]; exact LOwn.mono hf (Nat.zero_le _) (fun _ _ h => h) (fun _ h => h)
/-- One row is made a row of rows. -/
theorem step_lone {i : Nat} (l : List UInt8) {t : Nat} {X : Option Addr} {c : Nat} (hop : o.op = .buildSlice 22 1 #[(0, .tmp t)]) (hx : b.eval (.tmp t) = .slice X l.length c) (hF : F j = lrow [l]) (hi : (j, i) ∈ cons) (hc : l.length ≤ c) (hr : Rd w X l) (hX : ∀ b, X.map (·.block) = some b → S i b) (hlt : ∀ b, S i b → b < w.heap.size) (hE : ∀ v, E j V v) (hg : Rg.Open o V) : Rg.Does1 Try.prog o V b w (Rc.Good F cons E V S j w) := by
  refine .of hg fun K hK => ?_
  have h1 := LOwn.one (w := w) (O := noOld) (S := S i) hc (.inl ⟨hr, fun b hb => ⟨hX b hb, hlt b (hX b hb)⟩⟩)
  have hrun : (execOp b.eval o).run Try.prog w = .ok (.value (.slice (some ⟨w.heap.size, 0, none⟩) 1 1)) (w.alloc (.cells #[.slice X l.length c] 29)) := by
    obtain ⟨dst, op, ty, pos, after, guard⟩ := o
    simp only at hop
    subst hop
    simp only [execOp, List.map_toArray, List.map_cons, List.map_nil, hx]
    go_simp
  unfold Oper.wp
  rw [hrun]
  exact hK _ _ ⟨fun b => S i b ∨ b = w.heap.size, (Mod.of_below (below_new w _) _), by rw [hF]; exact h1.mono (Nat.zero_le _) (fun _ _ h => h) (fun _ h => h), fun k hk => ⟨hk.imp (fun h => ⟨i, hi, h⟩) (fun h => by omega), by rw [World.size_alloc]; rcases hk with h | h; have := hlt k h; omega; omega⟩, hE _⟩
/-- Rows are put behind rows. -/
theorem step_lapp {i k : Nat} (L L2 L3 : List (List UInt8)) (hL : L3 = L ++ L2) {s x : Operand} (hop : o.op = .call { callee := .builtin .append, args := #[s, x], argTypes := #[22, 22] }) (hs : b.eval s = V i) (hx : b.eval x = V k) (hF : F j = lrow L3) (hi : (j, i) ∈ cons) (hk : (j, k) ∈ cons)
    (h1 : (lrow L).holds (V i) w (S i)) (h2 : (lrow L2).holds (V k) w (S k)) (hsep : ∀ b, S i b → ¬ S k b) (hl1 : ∀ b, S i b → b < w.heap.size) (hl2 : ∀ b, S k b → b < w.heap.size) (hpos : 0 < L2.length) (hn : L.length + L2.length ≤ 1000000000) (hE : ∀ v, E j V v) (hg : Rg.Open o V) : Rg.Does1 Try.prog o V b w (Rc.Good F cons E V S j w) := by
  subst hL
  refine .of hg fun K hK => ?_
  obtain ⟨v', w', r1, r2, r3, r4, r5⟩ := run_append_rows o.type h1 h2 hpos hsep (fun b hb => hb.elim (hl1 b) (hl2 b)) (Nat.zero_le _) hn
  unfold Oper.wp
  simp [execOp, hop, resolve, invoke, builtin, hs, hx, r1, Result.andThen]
  have ho : ∀ b, (V i).ownBlock = some b → S i b := by obtain ⟨xs, _, h, _⟩ := h1; exact h
  refine hK v' w' ⟨fun b => (S i b ∨ S k b) ∨ v'.ownBlock = some b, ⟨r3.os, r3.tape, r3.output, r3.size, fun m hm hn => r3.block m hm fun e => hn ⟨i, hi, ho m e.symm⟩⟩, ?_, fun m hm => ?_, hE _⟩
  · rw [hF]; exact r2
  · rcases hm with (h | h) | h
    · exact ⟨.inl ⟨i, hi, h⟩, Nat.lt_of_lt_of_le (hl1 m h) r3.size⟩
    · exact ⟨.inl ⟨k, hk, h⟩, Nat.lt_of_lt_of_le (hl2 m h) r3.size⟩
    · refine ⟨?_, r5 m h⟩
      rcases r4 with e | e
      · exact .inl ⟨i, hi, ho m (e ▸ h)⟩
      · rw [e] at h; injection h with h; exact .inr (by omega)
end
/-- A hash that a call hands out. -/
def HNew (l : List UInt8) (w : World) (x : Value) (w' : World) : Prop := ∃ A c, x = .slice A l.length c ∧ l.length ≤ c ∧ Rd w' A l ∧ ∀ b, A.map (·.block) = some b → w.heap.size ≤ b ∧ b < w'.heap.size
theorem HNew.of_own {w w' : World} {l : List UInt8} {x : Value} {n : Nat} (h : w'.ownsRow w.heap.size 5 1 x n (Lib.byteCells l)) (hn : l.length = n) : HNew l w x w' := (Ob.Fresh.of_own h hn).form
def HOut (l : List UInt8) (w : World) (e : Ending) (w' : World) : Prop := ∃ x, e = .returned x ∧ HNew l w x w' ∧ Below w.heap.size w w'
theorem new_in {F : Nat → Rc.Fact} {cons : List (Nat × Nat)} {E : Nat → (Nat → Value) → Value → Prop} {V : Nat → Value} {S : Nat → Nat → Prop} {w w2 : World} {n : Nat} (h : Rc.Inv F cons E w.drew (fun _ => False) (fun i => i < n) V S w2) (i : Nat) (hi : i < n) (hc : cons.all (fun x => x.2 != i) = true) {b : Nat} (hb : S i b) : w.heap.size ≤ b ∧ b < w2.heap.size := by
  have hl : Rc.Live cons (fun i => i < n) i := ⟨hi, fun k _ hk => by have := List.all_eq_true.1 hc _ hk; simp at this⟩
  have := h.lt i b hl hb
  refine ⟨?_, this.1⟩
  rcases this.2 with h1 | h1
  · exact h1.elim
  · exact h1
theorem lnew_in {F : Nat → Rc.Fact} {cons : List (Nat × Nat)} {E : Nat → (Nat → Value) → Value → Prop} {V : Nat → Value} {S : Nat → Nat → Prop} {w w2 : World} {n : Nat} {L : List (List UInt8)} (h : Rc.Inv F cons E w.drew (fun _ => False) (fun i => i < n) V S w2) (i : Nat) (hi : i < n) (hc : cons.all (fun x => x.2 != i) = true) (hF : F i = lrow L := by rfl) : LNew L w (V i) w2 := by
  have h1 := h.get i hi hc
  rw [hF] at h1
  obtain ⟨xs, q1, q2, q3⟩ := h1
  refine ⟨xs, ⟨q1.1, ?_⟩, fun b hb => new_in h i hi hc (q2 b hb), fun j y hj => ?_⟩
  · rcases q1.2 with h2 | ⟨g, cap, cur, h3, h4, h5⟩
    · exact .inl h2
    · exact .inr ⟨g, cap, cur, h3, (new_in h i hi hc (q2 g (by rw [h3]; rfl))).1, h5⟩
  · obtain ⟨A, c, q4, q5, q6⟩ := q3 j y hj
    exact ⟨A, c, q4, q5, q6.imp (fun h2 => ⟨h2.1, fun b hb => ⟨new_in h i hi hc (h2.2 b hb).1, (h2.2 b hb).2⟩⟩) id⟩
section
variable {F : Nat → Rc.Fact} {cons : List (Nat × Nat)} {E : Nat → (Nat → Value) → Value → Prop} {V : Nat → Value} {S : Nat → Nat → Prop} {j : Nat} {o : Oper} {b : Act} {w : World}
theorem step_hcall (l : List UInt8) {fn : FuncId} {xs : Array Operand} {ts : Array TypeId} (args : Array Value) (hent : ∀ args w, (callFunc fn args).run Try.prog w = .ok (.enter fn args) w)
    (hop : o.op = .call { callee := .value (.func fn), args := xs, argTypes := ts }) (hargs : xs.map b.eval = args) (hF : F j = Ob.frow l) (hE : ∀ v, E j V v) (hg : Rg.Open o V)
    (hcall : Calls Try.prog fn args w (HOut l w)) : Rg.Does1 Try.prog o V b w (Rc.Good F cons E V S j w) := by
  refine Rc.step_call args hent hop hargs hE hg (hcall.mono ?_)
  rintro e w' ⟨x, rfl, ⟨A, c, rfl, hc, hr, hX⟩, hb⟩
  refine ⟨_, fun k => A.map (·.block) = some k, rfl, Mod.of_below hb _, ?_, fun k hk => ⟨.inr (hX k hk).1, (hX k hk).2⟩⟩
  rw [hF]; exact ⟨A, c, rfl, hc, hr, fun _ h => h⟩
end
end Go.Proofs.Ytombmeppdhhjhaa

/-
  OWN WORK. Rows of rows out of a law's arguments.
-/
namespace Go.Proofs.Ytombmeppdhhjhaa
open Go.ChangeShapes Go.WideShapes Go.RowKit Go.Deep

theorem Try.cellsRow : Try.prog.cellsOf 29 = 1 := by kernel_rfl
theorem rows_of {H : Type} {enc : TypeId × Value → H} {W : World} {fuel : Nat} {v : Value} {x : DataW H × List MemPlace}
    (h : DataW.trod enc Try.prog W 0 (fun _ => true) true fuel 22 [v] = some x) :
    ∃ (L : List (List UInt8)) (A : Option Addr) (cap : Nat), v = .slice A L.length cap ∧ L.length ≤ cap ∧ L.length ≤ 9223372036854775807 ∧ RdL W A L ∧ ∀ y, y ∈ L → y.length ≤ 9223372036854775807 := by
  rcases open_slice Try.underlying22 h with ⟨hcs, _⟩ | ⟨a, len, cap, m, n, D, Pl, hcs, _, hl, hm, hmm, hx, hi⟩
  · simp only [List.cons.injEq, and_true] at hcs
    exact ⟨[], none, 0, hcs, by simp, by simp, RdL.nil _ _, fun y hy => by simp at hy⟩
  · simp only [List.cons.injEq, and_true] at hcs
    subst hcs
    simp only [if_true] at hmm
    have key : ∀ i : Fin len, ∃ y : List UInt8, (∃ A' c, W.cell? (a.add i) = some (.slice A' y.length c) ∧ y.length ≤ c ∧ Rd W A' y) ∧ y.length ≤ 9223372036854775807 := fun i => by
      obtain ⟨cs, hc, ht⟩ := hi i (by have := i.2; omega)
      rw [Try.cellsRow, Nat.mul_one] at hc
      obtain ⟨_, hlen, hat⟩ := World.cells?_some hc
      match cs, hlen with
      | [v0], _ =>
        obtain ⟨l, A, c, e2, hlc, hll, hr⟩ := bytes_of (v := v0) ht
        have a0 : W.cell? ((a.add i).add 0) = some v0 := hat 0 (by omega)
        rw [add_of_add, Nat.add_zero] at a0
        subst e2
        exact ⟨l, ⟨A, c, a0, hlc, hr⟩, hll⟩
    obtain ⟨f, hf⟩ := Classical.axiomOfChoice key
    refine ⟨List.ofFn f, some a, cap, by rw [List.length_ofFn], by rw [List.length_ofFn]; exact hl, by rw [List.length_ofFn]; exact max_le (Nat.le_trans hl hm), fun h0 => ?_, fun y hy => ?_⟩
    · rw [List.length_ofFn] at h0
      obtain ⟨A1, c1, hc1, _⟩ := (hf ⟨0, h0⟩).1
      have hspot := World.cell?_spot hc1
      obtain ⟨b, off, spot⟩ := a
      have hsp : spot = none := by simpa [Addr.add] using hspot
      subst hsp
      refine ⟨b, off, rfl, World.block_lt_of_cell? W _ hc1, fun j y hj => ?_⟩
      have hjl : j < len := by
        have := (List.getElem?_eq_some_iff.1 hj).1
        simpa using this
      have e : y = f ⟨j, hjl⟩ := by
        rw [List.getElem?_ofFn, dif_pos hjl] at hj
        exact (Option.some.inj hj).symm
      subst e
      obtain ⟨A', c', q1, q2, q3⟩ := (hf ⟨j, hjl⟩).1
      rw [add_plain] at q1
      exact ⟨A', c', q1, q2, q3⟩
    · obtain ⟨i, rfl⟩ := (List.mem_ofFn).1 hy
      exact (hf i).2
end Go.Proofs.Ytombmeppdhhjhaa

/-
  OWN WORK. Rows of a call's own that are written place by place.
-/
namespace Go.Proofs.Ytombmeppdhhjhaa
open Go.RowKit

/-- A row of the call's own, written at one place. -/
theorem own_set {w : World} {base g c n : Nat} {l : List UInt8} (h : w.ownsRow base 5 1 (.slice (some ⟨g, 0, none⟩) n c) n (Lib.byteCells l)) (k : Nat) (_hk : k < n) (x : UInt8) (X : Int) (hX : X = x.toNat) :
    (w.setCell ⟨g, k, none⟩ (.int .u8 X)).ownsRow base 5 1 (.slice (some ⟨g, 0, none⟩) n c) n (Lib.byteCells (l.set k x)) := by
  subst hX
  refine ⟨by have := h.1; simpa [Lib.byteCells] using this, ?_⟩
  rcases h.2 with ⟨h1, _⟩ | ⟨g', cap, cur, h1, h2, h3, h4, h5, h6, h7⟩
  · cases h1
  · injection h1 with h1 h1b h1c
    injection h1 with h1
    injection h1 with h1
    subst h1
    refine .inr ⟨g, cap, cur.setIfInBounds k (.int .u8 x.toNat), by rw [h1c], h2, ?_, h4, h5, by simpa using h6, ?_⟩
    · simp [World.setCell, Array.getElem?_modify, h3]
    · rw [Array.toList_setIfInBounds, List.take_set, h7]
      simp [Lib.byteCells, List.map_set]
/-- .. and one that lies elsewhere. -/
theorem own_far {w : World} {base n : Nat} {v : Value} {xs : List Value} (h : w.ownsRow base 5 1 v n xs) (p : Addr) (hne : v.ownBlock ≠ some p.block) (u : Value) : (w.setCell p u).ownsRow base 5 1 v n xs := by
  refine ⟨h.1, ?_⟩
  rcases h.2 with h2 | ⟨g, cap, cur, h3, h4, h5, h6⟩
  · exact .inl h2
  · subst h3
    refine .inr ⟨g, cap, cur, rfl, h4, ?_, h6⟩
    rw [Below.heap_setCell w p u g (fun e => hne (by rw [← e]; rfl))]
    exact h5
theorem own_frozen {w : World} {base g c n : Nat} {xs : List Value} (h : w.ownsRow base 5 1 (.slice (some ⟨g, 0, none⟩) n c) n xs) (k : Nat) : w.frozen? ⟨g, k, none⟩ = false := by
  rcases h.2 with ⟨h1, _⟩ | ⟨g', cap, cur, h1, h2, h3, _⟩
  · cases h1
  · injection h1 with h1
    injection h1 with h1
    injection h1 with h1
    subst h1
    simp [World.frozen?, h3]
theorem own_addr {w : World} {base n c : Nat} {X : Option Addr} {xs : List Value} (h : w.ownsRow base 5 1 (.slice X n c) n xs) (hn : 0 < n) : ∃ g, X = some ⟨g, 0, none⟩ := by
  rcases h.2 with ⟨_, h0⟩ | ⟨g, cap, cur, h1, _⟩
  · omega
  · injection h1 with h1
    exact ⟨g, h1⟩
/-- A byte of it. -/
theorem own_byte {w : World} {base g c n : Nat} {l : List UInt8} (h : w.ownsRow base 5 1 (.slice (some ⟨g, 0, none⟩) n c) n (Lib.byteCells l)) (k : Nat) (hk : k < n) : w.cell? ⟨g, k, none⟩ = some (.int .u8 (l.getD k 0).toNat) := by
  obtain ⟨g', c', e, _, _, _, hlen, hr⟩ := rd_own h (by omega)
  injection e with e
  injection e with e
  injection e with e
  subst e
  obtain ⟨b, off, e, _, hc⟩ := hr.at_ (by omega)
  injection e with e
  injection e with e1 e2
  subst e1 e2
  have := hc k (by omega)
  rwa [Nat.zero_add] at this
theorem Rd.byte {w : World} {b off : Nat} {l : List UInt8} (h : Rd w (some ⟨b, off, none⟩) l) (j : Nat) (hj : j < l.length) : w.cell? ⟨b, off + j, none⟩ = some (.int .u8 (l.getD j 0).toNat) := by
  obtain ⟨b', off', e, _, hc⟩ := h.at_ (by omega)
  injection e with e
  injection e with e1 e2
  subst e1 e2
  exact hc j hj
/-- A row of noughts that is filled from its beginning. -/
theorem fill_set (L : List UInt8) (k : Nat) (h : k < L.length) : (L.take k ++ List.replicate (L.length - k) 0).set k (L.getD k 0) = L.take (k + 1) ++ List.replicate (L.length - (k + 1)) 0 := by
  have hl : (L.take k).length = k := by rw [List.length_take]; omega
  rw [List.set_append_right _ _ (by omega), hl, Nat.sub_self]
  have e1 : List.replicate (L.length - k) (0 : UInt8) = 0 :: List.replicate (L.length - (k + 1)) 0 := by
    rw [show L.length - k = (L.length - (k + 1)) + 1 by omega]; rfl
  rw [e1, List.set_cons_zero, List.take_succ_eq_append_getElem h, List.append_assoc]
  simp [List.getD, List.getElem?_eq_getElem h]
theorem Later.setCell {w0 w : World} (h : Later w0 w) (p : Addr) (hp : w0.heap.size ≤ p.block) (u : Value) : Later w0 (w.setCell p u) := Below.setCell h hp u
end Go.Proofs.Ytombmeppdhhjhaa
