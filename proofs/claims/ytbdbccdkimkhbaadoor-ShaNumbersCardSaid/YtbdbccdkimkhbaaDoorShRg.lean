/-
  OWN WORK. Regions by facts: the steps of rows of bytes.
-/
import Derived.Test.YtbdbccdkimkhbaaDoorRg
import Derived.Test.YtbdbccdkimkhbaaDoorShAny
import Derived.Test.YtbdbccdkimkhbaaDoorShBook
namespace Go.Proofs.YtbdbccdkimkhbaaDoor
open Go.RowKit Sh

def bRow (l : List UInt8) : Rg.Fact := Rg.row 5 l.length (Lib.byteCells l)
theorem bRow_form {w : World} {v : Value} {l : List UInt8} (h : (bRow l).holds v w) : ∃ A c, v = .slice A l.length c ∧ l.length ≤ c ∧ Rd w A l := by
  have h0 : w.ownsRow 0 5 1 v l.length (Lib.byteCells l) := h
  rcases Nat.eq_zero_or_pos l.length with h1 | h1
  · rcases h0.2 with ⟨rfl, _⟩ | ⟨g, cap, cur, rfl, _, _, hn, _⟩
    · exact ⟨none, 0, by rw [h1], by omega, fun hp => absurd hp (by omega)⟩
    · exact ⟨_, cap, rfl, hn, fun hp => absurd hp (by omega)⟩
  · obtain ⟨g, c, e, hc, _, _, _, hr⟩ := rd_own h0 h1
    exact ⟨_, c, e, hc, hr⟩
theorem own_lt {w : World} {base n k : Nat} {v : Value} {xs : List Value} (h : w.ownsRow base 5 1 v n xs) (hk : v.ownBlock = some k) : base ≤ k ∧ k < w.heap.size := by
  rcases h.2 with ⟨rfl, _⟩ | ⟨g, cap, cur, rfl, hb, hh, _⟩
  · cases hk
  · simp only [Value.ownBlock, Option.some.injEq] at hk
    subst hk
    refine ⟨hb, ?_⟩
    rcases Nat.lt_or_ge g w.heap.size with hlt | hge
    · exact hlt
    · rw [Array.getElem?_eq_none hge] at hh; cases hh
theorem own_base {w : World} {base n : Nat} {v : Value} {xs : List Value} (h : w.ownsRow base 5 1 v n xs) : w.ownsRow 0 5 1 v n xs := own_mono h (Nat.zero_le _)

theorem later_drew {w w2 : World} (h : Below w.drew.heap.size w.drew w2) : Later w w2 := ⟨h.os, h.tape, h.output, h.size, h.block⟩
/-- Another row than those that were there: it may be written. -/
theorem Later.keeps {w0 w w' : World} {g : Nat} (h : Later w0 w) (k : Keeps w w' g) (hg : w0.heap.size ≤ g) : Later w0 w' := Keeps.below h k hg h.size
/-- A row that is written, byte by byte. -/
def XAt (g : Nat) (w0 wr : World) : Prop := (∃ cs, Blk wr g 5 cs ∧ ∀ j, j < 32 → ∃ v : Int, cs[j]? = some (.int .u8 v)) ∧ Keeps w0 wr g
theorem XAt.start {w : World} {base g c : Nat} {l : List UInt8} (h : w.ownsRow base 5 1 (.slice (some ⟨g, 0, none⟩) 32 c) 32 (Lib.byteCells l)) : XAt g w w := by
  refine ⟨?_, Keeps.refl _ _⟩
  rcases h.2 with ⟨h1, _⟩ | ⟨g', cap, cur, h1, h2, h3, h4, h5, h6, h7⟩
  · cases h1
  · injection h1 with h1 _ h8
    injection h1 with h1
    injection h1 with h1
    subst h1
    refine ⟨cur.toList, by show _ = _; rw [h3], fun j hj => ?_⟩
    have e : (cur.toList.take (32 * 1))[j]? = (Lib.byteCells l)[j]? := by rw [h7]
    rw [List.getElem?_take_of_lt (by omega)] at e
    have hl : (Lib.byteCells l).length = 32 := h.1
    rw [Lib.byteCells_length] at hl
    rw [e]
    refine ⟨((l[j]'(by omega)).toNat : Int), ?_⟩
    simp only [Lib.byteCells, List.getElem?_map, List.getElem?_eq_getElem (show j < l.length by omega), Option.map_some]
theorem XAt.cell {g : Nat} {w0 wr : World} (h : XAt g w0 wr) (j : Nat) (hj : j < 32) : ∃ v : Int, wr.cell? ⟨g, j, none⟩ = some (.int .u8 v) ∧ wr.frozen? ⟨g, j, none⟩ = false := by
  obtain ⟨⟨cs, h1, h2⟩, _⟩ := h
  obtain ⟨v, hv⟩ := h2 j hj
  exact ⟨v, by rw [h1.cell, hv], h1.frozen j⟩
theorem XAt.set {g : Nat} {w0 wr : World} (h : XAt g w0 wr) (j : Nat) (v : Int) : XAt g w0 (wr.setCell ⟨g, j, none⟩ (.int .u8 v)) := by
  obtain ⟨⟨cs, h1, h2⟩, h3⟩ := h
  refine ⟨⟨cs.set j (.int .u8 v), h1.set_ j _, fun i hi => ?_⟩, h3.setCell j _⟩
  obtain ⟨u, hu⟩ := h2 i hi
  by_cases e : j = i
  · subst e
    exact ⟨v, by rw [List.getElem?_set_self (List.getElem?_eq_some_iff.1 hu).1]⟩
  · exact ⟨u, by rw [List.getElem?_set_ne e]; exact hu⟩
/-- Cut, its answer's length a name. -/
theorem cut_to (A : Option Addr) (l : List UInt8) (cap n : Nat) (w : World) (hr : Rd w A l) (hc : l.length ≤ cap) (hn : n ≤ 1000000) (hl : l.length ≤ 9223372036854775807) :
    Calls Tryd.prog 17 #[.slice A l.length cap, .int .i64 n] w fun e w' => ∃ x : List UInt8, e = .returned (.slice A x.length cap) ∧ w = w' ∧ x.length ≤ n ∧ x.length ≤ cap ∧ Hid (Rd w A x) :=
  (cut_any A l cap n hc hn hl w).mono fun e w' ⟨h1, h2⟩ => ⟨l.take n, h1, h2, List.length_take_le _ _, by rw [List.length_take]; omega, hr.take n⟩

section
variable {F : Nat → Rg.Fact} {cons : List (Nat × Nat)} {W0 : World} {V : Nat → Value} {j : Nat} {o : Oper} {b : Act} {w : World}
theorem step_one (x : UInt8) {X : Int} (hX : X = x.toNat) (hop : o.op = .buildSlice 22 1 #[(0, .const (.int .u8 X))]) (hF : F j = bRow [x]) (hc : Rg.consOf cons j = none) (hg : Rg.Open o V) : Rg.Does1 Tryd.prog o V b w (Rg.Good F (Rg.consOf cons) W0 V j w) := by
  subst hX
  refine Rg.step_new (.slice (some ⟨w.heap.size, 0, none⟩) 1 1) (w.alloc (.cells #[.int .u8 x.toNat] 5)) hc hg ?_ ((Below.refl _ _).alloc (Nat.le_refl _) _) ?_ ?_
  · obtain ⟨dst, op, ty, pos, after, guard⟩ := o
    simp only at hop
    subst hop
    go_simp
  · rw [hF]
    exact own_base (own_one w x)
  · intro k hk
    rw [hF] at hk
    exact own_lt (own_one w x) hk
theorem step_none (hop : o.op = .buildSlice 22 0 #[]) (hF : F j = bRow []) (hc : Rg.consOf cons j = none) (hg : Rg.Open o V) : Rg.Does1 Tryd.prog o V b w (Rg.Good F (Rg.consOf cons) W0 V j w) := by
  refine Rg.step_new (.slice (some ⟨w.heap.size, 0, none⟩) 0 0) (w.alloc (.cells #[] 5)) hc hg ?_ ((Below.refl _ _).alloc (Nat.le_refl _) _) ?_ ?_
  · obtain ⟨dst, op, ty, pos, after, guard⟩ := o
    simp only at hop
    subst hop
    go_simp
  · rw [hF]
    exact own_base (own_none w)
  · intro k hk
    rw [hF] at hk
    exact own_lt (own_none w) hk
theorem step_app {i : Nat} (l r L : List UInt8) (hL : L = l ++ r) {s x : Operand} {A : Option Addr} {m c : Nat} (hop : o.op = .call { callee := .builtin .append, args := #[s, x], argTypes := #[22, 22] }) (hs : b.eval s = V i) (hx : b.eval x = .slice A m c)
    (hm : r.length = m) (hV : (bRow l).holds (V i) w) (hr : Rd w A r) (hn : l.length + r.length ≤ 1099511627776) (hF : F j = bRow L) (hFi : F i = bRow l) (hc : Rg.consOf cons j = some i) (hg : Rg.Open o V) : Rg.Does1 Tryd.prog o V b w (Rg.Good F (Rg.consOf cons) W0 V j w) := by
  obtain ⟨i0, hi, hz0, hz1, hz2⟩ := info_parts Tryd.infoU8
  refine .of hg fun K hK => ?_
  refine wp_append_at s x 22 hop 0 5 i0 Tryd.underlying22 hi hz0 hz1 hz2 (V i) l.length (Lib.byteCells l) hs hV A r m c hm hx hr hn (Nat.zero_le _) ?_
  intro v' w' h1 h2 h3
  have hsrc : Rg.src F (Rg.consOf cons) V j = (V i).ownBlock := by
    unfold Rg.src
    rw [hc]
    show (F i).own (V i) = _
    rw [hFi]
    rfl
  have h4 : w'.ownsRow 0 5 1 v' L.length (Lib.byteCells L) := by
    subst hL
    rw [Lib.byteCells_append, List.length_append]
    exact h1.out
  refine hK v' w' ⟨by rw [hsrc]; exact h2.out, by rw [hF]; exact h4, fun k hk => ?_⟩
  rw [hF] at hk
  have hk2 : v'.ownBlock = some k := hk
  refine ⟨?_, (own_lt h4 hk2).2⟩
  rcases h3.out with h5 | h5
  · left; rw [hsrc, ← h5]; exact hk2
  · right; rw [h5] at hk2; injection hk2 with hk2; omega
theorem step_str (l : List UInt8) {x : Operand} {A : Option Addr} {m c : Nat} (hop : o.op = .convert 22 9 x) (hx : b.eval x = .slice A m c) (hm : l.length = m) (hr : Rd w A l) (hF : F j = Rg.val (.string (strOf l))) (hc : Rg.consOf cons j = none) (hg : Rg.Open o V) :
    Rg.Does1 Tryd.prog o V b w (Rg.Good F (Rg.consOf cons) W0 V j w) := by
  subst hm
  refine Rg.step_val (.string (strOf l)) hc hg ?_ (by rw [hF]; rfl) (by rw [hF]; rfl)
  have := str_any w A l c hr
  obtain ⟨dst, op, ty, pos, after, guard⟩ := o
  simp only at hop
  subst hop
  simp only [execOp, hx]
  go_simp
theorem step_row {f : FuncId} {xs : Array Operand} {ts : Array TypeId} (args : Array Value) (l : List UInt8) {n : Nat} (hent : ∀ args w, (callFunc f args).run Tryd.prog w = .ok (.enter f args) w) (hop : o.op = .call { callee := .value (.func f), args := xs, argTypes := ts }) (hargs : xs.map b.eval = args) (hn : l.length = n) (hF : F j = bRow l) (hc : Rg.consOf cons j = none) (hg : Rg.Open o V)
    (h : Calls Tryd.prog f args w fun e w' => ∃ v, e = .returned v ∧ w'.ownsRow w.heap.size 5 1 v n (Lib.byteCells l) ∧ Below w.heap.size w w') : Rg.Does1 Tryd.prog o V b w (Rg.Good F (Rg.consOf cons) W0 V j w) := by
  subst hn
  refine Rg.step_call args hent hop hargs hc hg (h.mono ?_)
  rintro e w' ⟨v, rfl, h1, h2⟩
  exact ⟨v, rfl, h2, by rw [hF]; exact own_base h1, fun k hk => by rw [hF] at hk; exact own_lt h1 hk⟩
theorem step_num {f : FuncId} {xs : Array Operand} {ts : Array TypeId} (args : Array Value) (x : Value) (hent : ∀ args w, (callFunc f args).run Tryd.prog w = .ok (.enter f args) w) (hop : o.op = .call { callee := .value (.func f), args := xs, argTypes := ts }) (hargs : xs.map b.eval = args) (hF : F j = Rg.val x) (hc : Rg.consOf cons j = none) (hg : Rg.Open o V)
    (h : Calls Tryd.prog f args w fun e w' => e = .returned x ∧ Below w.heap.size w w') : Rg.Does1 Tryd.prog o V b w (Rg.Good F (Rg.consOf cons) W0 V j w) := by
  refine Rg.step_call args hent hop hargs hc hg (h.mono ?_)
  rintro e w' ⟨rfl, h2⟩
  exact ⟨x, rfl, h2, by rw [hF]; rfl, fun k hk => by rw [hF] at hk; cases hk⟩
/-- A cut. -/
theorem step_slh {t : TypeId} {x y : Operand} {X Y v : Value} (hop : o.op = .slice t x none (some y) none) (hx : b.eval x = X) (hy : b.eval y = Y) (h : (Instr.sliceAt t X none (some Y) none).run Tryd.prog w = .ok v w) (hF : F j = Rg.val v) (hc : Rg.consOf cons j = none) (hg : Rg.Open o V) :
    Rg.Does1 Tryd.prog o V b w (Rg.Good F (Rg.consOf cons) W0 V j w) := by
  refine Rg.step_val v hc hg ?_ (by rw [hF]; rfl) (by rw [hF]; rfl)
  obtain ⟨dst, op, ty, pos, after, guard⟩ := o
  simp only at hop
  subst hop
  simp only [execOp, Option.map_some, Option.map_none, hx, hy]
  simp [h, Result.andThen]
/-- A value that hangs on no memory. -/
theorem step_mv (x : Value) (h : (execOp b.eval o).run Tryd.prog w = .ok (.value x) w) (hF : F j = Rg.val x) (hc : Rg.consOf cons j = none) (hg : Rg.Open o V) : Rg.Does1 Tryd.prog o V b w (Rg.Good F (Rg.consOf cons) W0 V j w) :=
  Rg.step_val x hc hg h (by rw [hF]; rfl) (by rw [hF]; rfl)
end
end Go.Proofs.YtbdbccdkimkhbaaDoor
