/-
  OWN WORK. Regions by facts: the steps of rows of bytes.
-/
import Derived.Test.YtpblhdpnmnfieaaRgB
import Derived.Test.YtpblhdpnmnfieaaBaRow
namespace Go.Proofs.Ytpblhdpnmnfieaa
open Go.RowKit

def bRow (l : List UInt8) : Rg.Fact := Rg.row 5 l.length (Lib.byteCells l)

theorem bRow_form {w : World} {v : Value} {l : List UInt8} (h : (bRow l).holds v w) : ∃ A c, v = .slice A l.length c ∧ l.length ≤ c ∧ Rd w A l := by
  have h0 : w.ownsRow 0 5 1 v l.length (Lib.byteCells l) := h
  rcases Nat.eq_zero_or_pos l.length with h1 | h1
  · rcases h0.2 with ⟨rfl, _⟩ | ⟨g, cap, cur, rfl, _, _, hn, _⟩
    · exact ⟨none, 0, by rw [h1], by omega, fun hp => absurd hp (by omega)⟩
    · exact ⟨_, cap, rfl, hn, fun hp => absurd hp (by omega)⟩
  · obtain ⟨g, c, e, hc, _, _, _, hr⟩ := rd_own h0 h1
    exact ⟨_, c, e, hc, hr⟩

section
variable {F : Nat → Rg.Fact} {cons : List (Nat × Nat)} {al : List (Nat × Nat × (Value → Value))} {W0 : World} {V : Nat → Value} {j : Nat} {o : Oper} {b : Act} {w : World}
theorem step_one (x : UInt8) {X : Int} (hX : X = x.toNat) (hop : o.op = .buildSlice 60 1 #[(0, .const (.int .u8 X))]) (hF : F j = bRow [x]) (ha : (al.all fun x => x.1 != j) = true) (hc : Rg.consOf cons j = none) (hg : Rg.Open o V) : Rg.Does1 Try.prog o V b w (Rg.Good F (Rg.consOf cons) (Rg.alias al) W0 V j w) := by
  subst hX
  refine Rg.step_new (.slice (some ⟨w.heap.size, 0, none⟩) 1 1) (w.alloc (.cells #[.int .u8 x.toNat] 5)) (Rg.alias_none ha V _) hc hg ?_ ((Below.refl _ _).alloc (Nat.le_refl _) _) ?_ ?_
  · obtain ⟨dst, op, ty, pos, after, guard⟩ := o
    simp only at hop
    subst hop
    go_simp
  · rw [hF]
    exact own_base (own_one w x)
  · intro k hk
    rw [hF] at hk
    exact own_lt (own_one w x) hk

theorem step_none (hop : o.op = .buildSlice 60 0 #[]) (hF : F j = bRow []) (ha : (al.all fun x => x.1 != j) = true) (hc : Rg.consOf cons j = none) (hg : Rg.Open o V) : Rg.Does1 Try.prog o V b w (Rg.Good F (Rg.consOf cons) (Rg.alias al) W0 V j w) := by
  refine Rg.step_new (.slice (some ⟨w.heap.size, 0, none⟩) 0 0) (w.alloc (.cells #[] 5)) (Rg.alias_none ha V _) hc hg ?_ ((Below.refl _ _).alloc (Nat.le_refl _) _) ?_ ?_
  · obtain ⟨dst, op, ty, pos, after, guard⟩ := o
    simp only at hop
    subst hop
    go_simp
  · rw [hF]
    exact own_base (own_none w)
  · intro k hk
    rw [hF] at hk
    exact own_lt (own_none w) hk

theorem step_app {i : Nat} (l r L : List UInt8) (hL : L = l ++ r) {s x : Operand} {A : Option Addr} {m c : Nat} (hop : o.op = .call { callee := .builtin .append, args := #[s, x], argTypes := #[60, 60] }) (hs : b.eval s = V i) (hx : b.eval x = .slice A m c)
    (hm : r.length = m) (hV : (bRow l).holds (V i) w) (hr : Rd w A r) (hn : l.length + r.length ≤ 1099511627776) (hF : F j = bRow L) (hFi : F i = bRow l) (ha : (al.all fun x => x.1 != j) = true) (hc : Rg.consOf cons j = some i) (hg : Rg.Open o V) : Rg.Does1 Try.prog o V b w (Rg.Good F (Rg.consOf cons) (Rg.alias al) W0 V j w) := by
  obtain ⟨i0, hi, hz0, hz1, hz2⟩ := info_parts Try.infoU8
  refine .of hg fun K hK => ?_
  refine wp_append_at s x 60 hop 0 5 i0 Try.underlying60 hi hz0 hz1 hz2 (V i) l.length (Lib.byteCells l) hs hV A r m c hm hx hr hn (Nat.zero_le _) ?_
  intro v' w' h1 h2 h3
  have hsrc : Rg.src F (Rg.consOf cons) V j = (V i).ownBlock := by
    unfold Rg.src
    rw [hc]
    show (F i).own (V i) = _
    rw [hFi]
    rfl
  have h4 : w'.ownsRow 0 5 1 v' L.length (Lib.byteCells L) := by
    subst hL
    rw [Lib.byteCells_append, List.length_append]
    exact h1.out
  refine hK v' w' ⟨by rw [hsrc]; exact h2.out, by rw [hF]; exact h4, fun k hk => ?_, Rg.alias_none ha V _⟩
  rw [hF] at hk
  have hk2 : v'.ownBlock = some k := hk
  refine ⟨?_, (own_lt h4 hk2).2⟩
  rcases h3.out with h5 | h5
  · left; rw [hsrc, ← h5]; exact hk2
  · right; rw [h5] at hk2; injection hk2 with hk2; omega

theorem step_row {f : FuncId} {xs : Array Operand} {ts : Array TypeId} (args : Array Value) (l : List UInt8) {n : Nat} (hent : ∀ args w, (callFunc f args).run Try.prog w = .ok (.enter f args) w) (hop : o.op = .call { callee := .value (.func f), args := xs, argTypes := ts }) (hargs : xs.map b.eval = args) (hn : l.length = n) (hF : F j = bRow l) (ha : (al.all fun x => x.1 != j) = true) (hc : Rg.consOf cons j = none) (hg : Rg.Open o V)
    (h : Calls Try.prog f args w fun e w' => ∃ v, e = .returned v ∧ w'.ownsRow w.heap.size 5 1 v n (Lib.byteCells l) ∧ Below w.heap.size w w') : Rg.Does1 Try.prog o V b w (Rg.Good F (Rg.consOf cons) (Rg.alias al) W0 V j w) := by
  subst hn
  refine Rg.step_call args hent hop hargs (fun v => Rg.alias_none ha V v) hc hg (h.mono ?_)
  rintro e w' ⟨v, rfl, h1, h2⟩
  exact ⟨v, rfl, h2, by rw [hF]; exact own_base h1, fun k hk => by rw [hF] at hk; exact own_lt h1 hk⟩

theorem step_num {f : FuncId} {xs : Array Operand} {ts : Array TypeId} (args : Array Value) (x : Value) (hent : ∀ args w, (callFunc f args).run Try.prog w = .ok (.enter f args) w) (hop : o.op = .call { callee := .value (.func f), args := xs, argTypes := ts }) (hargs : xs.map b.eval = args) (hF : F j = Rg.val x) (ha : (al.all fun x => x.1 != j) = true) (hc : Rg.consOf cons j = none) (hg : Rg.Open o V)
    (h : Calls Try.prog f args w fun e w' => e = .returned x ∧ Below w.heap.size w w') : Rg.Does1 Try.prog o V b w (Rg.Good F (Rg.consOf cons) (Rg.alias al) W0 V j w) := by
  refine Rg.step_call args hent hop hargs (fun v => Rg.alias_none ha V v) hc hg (h.mono ?_)
  rintro e w' ⟨rfl, h2⟩
  exact ⟨x, rfl, h2, by rw [hF]; rfl, fun k hk => by rw [hF] at hk; cases hk⟩

/-- A cut. -/
theorem step_slh {t : TypeId} {x y : Operand} {X Y v : Value} (hop : o.op = .slice t x none (some y) none) (hx : b.eval x = X) (hy : b.eval y = Y) (h : (Instr.sliceAt t X none (some Y) none).run Try.prog w = .ok v w) (hF : F j = Rg.val v) (ha : (al.all fun x => x.1 != j) = true) (hc : Rg.consOf cons j = none) (hg : Rg.Open o V) :
    Rg.Does1 Try.prog o V b w (Rg.Good F (Rg.consOf cons) (Rg.alias al) W0 V j w) := by
  refine Rg.step_val v (Rg.alias_none ha V _) hc hg ?_ (by rw [hF]; rfl) (by rw [hF]; rfl)
  obtain ⟨dst, op, ty, pos, after, guard⟩ := o
  simp only at hop
  subst hop
  simp only [execOp, Option.map_some, Option.map_none, hx, hy]
  simp [h, Result.andThen]

theorem step_sll {t : TypeId} {x y : Operand} {X Y v : Value} (hop : o.op = .slice t x (some y) none none) (hx : b.eval x = X) (hy : b.eval y = Y) (h : (Instr.sliceAt t X (some Y) none none).run Try.prog w = .ok v w) (hF : F j = Rg.val v) (ha : (al.all fun x => x.1 != j) = true) (hc : Rg.consOf cons j = none) (hg : Rg.Open o V) :
    Rg.Does1 Try.prog o V b w (Rg.Good F (Rg.consOf cons) (Rg.alias al) W0 V j w) := by
  refine Rg.step_val v (Rg.alias_none ha V _) hc hg ?_ (by rw [hF]; rfl) (by rw [hF]; rfl)
  obtain ⟨dst, op, ty, pos, after, guard⟩ := o
  simp only at hop
  subst hop
  simp only [execOp, Option.map_some, Option.map_none, hx, hy]
  simp [h, Result.andThen]

theorem step_sllh {t : TypeId} {x y z : Operand} {X Y Z v : Value} (hop : o.op = .slice t x (some y) (some z) none) (hx : b.eval x = X) (hy : b.eval y = Y) (hz : b.eval z = Z) (h : (Instr.sliceAt t X (some Y) (some Z) none).run Try.prog w = .ok v w) (hF : F j = Rg.val v) (ha : (al.all fun x => x.1 != j) = true) (hc : Rg.consOf cons j = none) (hg : Rg.Open o V) :
    Rg.Does1 Try.prog o V b w (Rg.Good F (Rg.consOf cons) (Rg.alias al) W0 V j w) := by
  refine Rg.step_val v (Rg.alias_none ha V _) hc hg ?_ (by rw [hF]; rfl) (by rw [hF]; rfl)
  obtain ⟨dst, op, ty, pos, after, guard⟩ := o
  simp only at hop
  subst hop
  simp only [execOp, Option.map_some, Option.map_none, hx, hy, hz]
  simp [h, Result.andThen]

/-- A value that hangs on no memory. -/
theorem step_mv (x : Value) (h : (execOp b.eval o).run Try.prog w = .ok (.value x) w) (hF : F j = Rg.val x) (ha : (al.all fun x => x.1 != j) = true) (hc : Rg.consOf cons j = none) (hg : Rg.Open o V) : Rg.Does1 Try.prog o V b w (Rg.Good F (Rg.consOf cons) (Rg.alias al) W0 V j w) :=
  Rg.step_val x (Rg.alias_none ha V _) hc hg h (by rw [hF]; rfl) (by rw [hF]; rfl)
/-- A value told out of another. -/
theorem step_as (i : Nat) (f : Value → Value) (hal : al.filter (fun x => x.1 == j) = [(j, i, f)]) (h : (execOp b.eval o).run Try.prog w = .ok (.value (f (V i))) w) (hF : F j = Rg.any) (hc : Rg.consOf cons j = none) (hg : Rg.Open o V) : Rg.Does1 Try.prog o V b w (Rg.Good F (Rg.consOf cons) (Rg.alias al) W0 V j w) :=
  Rg.step_val _ (Rg.alias_one hal V) hc hg h (by rw [hF]; trivial) (by rw [hF]; rfl)
theorem made_bytes (n : Nat) : (madeCells (Value.int .u8 0).cells (n * 1)).toList = Lib.byteCells (List.replicate n 0) := by
  apply List.ext_getElem
  · simp [madeCells, Lib.byteCells]
  · intro i h1 h2
    simp [madeCells, Lib.byteCells, Value.cells]
    rw [Nat.mod_one]; rfl
/-- A row of noughts. -/
theorem step_make (n : Nat) {x y : Operand} (hop : o.op = .makeSlice 60 x y) (hx : b.eval x = .int .i64 (n : Int)) (hy : b.eval y = .int .i64 (n : Int)) (hn : n ≤ 1099511627776) (hF : F j = bRow (List.replicate n 0)) (ha : (al.all fun x => x.1 != j) = true) (hc : Rg.consOf cons j = none) (hg : Rg.Open o V) :
    Rg.Does1 Try.prog o V b w (Rg.Good F (Rg.consOf cons) (Rg.alias al) W0 V j w) := by
  obtain ⟨i0, hi, hz0, hz1, hz2⟩ := info_parts Try.infoU8
  obtain ⟨w', hrun, r1, r2⟩ := run_make_full (P := Try.prog) w w.heap.size 60 5 i0 (.int .u8 0) 1 Try.underlying60 hi hz0 hz1 .i64 .i64 n (by rw [hz2]; omega) (by unfold maxLen; omega) (Nat.le_refl _)
  rw [made_bytes] at r1
  refine Rg.step_new (.slice (some ⟨w.heap.size, 0, none⟩) n n) w' (Rg.alias_none ha V _) hc hg ?_ ((Below.refl _ _).grown r2 (Nat.le_refl _) (fun k hk => by cases hk)) ?_ ?_
  · obtain ⟨dst, op, ty, pos, after, guard⟩ := o
    simp only at hop
    subst hop
    simp [execOp, hx, hy, hrun, Result.andThen]
  · rw [hF]
    show w'.ownsRow 0 _ 1 _ (List.replicate n (0 : UInt8)).length _
    rw [List.length_replicate]
    exact own_base r1
  · intro k hk
    rw [hF] at hk
    exact own_lt r1 hk
end
end Go.Proofs.Ytpblhdpnmnfieaa
