/-
  OWN WORK. Rows of rows that are copied, in part or whole, one behind the other; a row in a copy that is turned.
-/
import Derived.Test.YtkjkmdhbodjeeaaMkRows
namespace Go.Proofs.Ytkjkmdhbodjeeaa
open Go.RowKit Rc

/-- A slice of rows, in w; their bytes stood in wb. -/
def Src (wb w : World) (A : Option Addr) (Q : List (List UInt8)) : Prop :=
  0 < Q.length → ∃ b off, A = some ⟨b, off, none⟩ ∧ ∀ j y, Q[j]? = some y → ∃ A' c, w.cell? ⟨b, off + j, none⟩ = some (.slice A' y.length c) ∧ y.length ≤ c ∧ Rd wb A' y
theorem Src.of_rd {wb w : World} {A : Option Addr} {Q : List (List UInt8)} (h : RdL wb A Q) (hb : Below wb.heap.size wb w) : Src wb w A Q := fun hl => by
  obtain ⟨b, off, rfl, hlt, hc⟩ := h hl
  refine ⟨b, off, rfl, fun j y hj => ?_⟩
  obtain ⟨A', c, h1, h2, h3⟩ := hc j y hj
  exact ⟨A', c, (hb.cell (p := ⟨b, off + j, none⟩) hlt).trans h1, h2, h3⟩
theorem Src.one {wb w : World} {A : Option Addr} {y : List UInt8} {c : Nat} (hr : Rd wb A y) (hc : y.length ≤ c) : Src wb (w.alloc (.cells #[.slice A y.length c] 36)) (some ⟨w.heap.size, 0, none⟩) [y] := fun _ => by
  refine ⟨w.heap.size, 0, rfl, fun j z hj => ?_⟩
  have hj0 : j = 0 := by have := (List.getElem?_eq_some_iff.1 hj).1; simp at this; exact this
  subst hj0
  obtain rfl : y = z := by simpa using hj
  exact ⟨A, c, by rw [cell_of_row _ w.heap.size 0 #[.slice A y.length c] _ (0, 0) (heap_alloc_new w _)]; rfl, hc, hr⟩

/-- Rows in a block of the call's own; their bytes stood in wb. -/
def OR (wb : World) (B : Nat) (v : Value) (L : List (List UInt8)) (w : World) : Prop :=
  ∃ xs : List Value, w.ownsRow B 36 1 v L.length xs ∧ ∀ (j : Nat) (y : List UInt8), L[j]? = some y → ∃ A c, xs[j]? = some (Value.slice A y.length c) ∧ y.length ≤ c ∧ Rd wb A y
theorem OR.mono {wb w : World} {B B' : Nat} {v : Value} {L : List (List UInt8)} (h : OR wb B v L w) (hB : B' ≤ B) : OR wb B' v L w := by
  obtain ⟨xs, h1, h2⟩ := h
  refine ⟨xs, ⟨h1.1, ?_⟩, h2⟩
  rcases h1.2 with h | ⟨g, cap, cur, h4, h5, h6⟩
  · exact .inl h
  · exact .inr ⟨g, cap, cur, h4, by omega, h6⟩
theorem OR.keep {wb w w' : World} {B : Nat} {v : Value} {L : List (List UInt8)} (h : OR wb B v L w) (hb : ∀ b, v.ownBlock = some b → w'.heap[b]? = w.heap[b]?) : OR wb B v L w' := by
  obtain ⟨xs, h1, h2⟩ := h
  refine ⟨xs, ⟨h1.1, ?_⟩, h2⟩
  rcases h1.2 with h | ⟨g, cap, cur, h4, h5, h6, h7⟩
  · exact .inl h
  · subst h4
    exact .inr ⟨g, cap, cur, rfl, h5, (hb g rfl).trans h6, h7⟩
theorem OR.lt {wb w : World} {B : Nat} {v : Value} {L : List (List UInt8)} (h : OR wb B v L w) (b : Nat) (hb : v.ownBlock = some b) : B ≤ b ∧ b < w.heap.size := by
  obtain ⟨xs, h1, _⟩ := h
  rcases h1.2 with ⟨rfl, _⟩ | ⟨g, cap, cur, rfl, h2, hg, _⟩
  · cases hb
  · simp only [Value.ownBlock, Option.some.injEq] at hb
    subst hb
    exact ⟨h2, (Array.getElem?_eq_some_iff.1 hg).1⟩
theorem OR.below {wb w w' : World} {B : Nat} {v : Value} {L : List (List UInt8)} (h : OR wb B v L w) (hb : Below w.heap.size w w') : OR wb B v L w' := h.keep fun b e => hb.block b (h.lt b e).2
theorem OR.none_new (wb w : World) : OR wb w.heap.size (.slice (some ⟨w.heap.size, 0, none⟩) 0 0) [] (w.alloc (.cells #[] 36)) :=
  ⟨[], ⟨rfl, .inr ⟨w.heap.size, 0, #[], rfl, Nat.le_refl _, heap_alloc_new w _, Nat.le_refl _, by unfold maxLen; omega, rfl, rfl⟩⟩, fun j y hj => by simp at hj⟩
/-- They are read. -/
theorem OR.rd {wb w : World} {B : Nat} {v : Value} {L : List (List UInt8)} (h : OR wb B v L w) (hb : Below wb.heap.size wb w) : ∃ A c, v = .slice A L.length c ∧ L.length ≤ c ∧ RdL w A L := by
  obtain ⟨xs, h1, h3⟩ := h
  rcases h1.2 with ⟨rfl, h0⟩ | ⟨g, cap, cur, rfl, _, hg, hn, hm, hsz, hx⟩
  · exact ⟨none, 0, by rw [h0], by omega, fun hp => by omega⟩
  · refine ⟨_, cap, rfl, hn, fun _ => ⟨g, 0, rfl, (Array.getElem?_eq_some_iff.1 hg).1, fun j y hj => ?_⟩⟩
    obtain ⟨A, c, h4, h5, h6⟩ := h3 j y hj
    refine ⟨A, c, ?_, h5, h6.below hb⟩
    rw [cell_of_row w g (0 + j) cur _ _ hg, Nat.zero_add]
    rw [← hx, List.getElem?_take] at h4
    split at h4
    · simpa using h4
    · cases h4
/-- Rows are put behind them. -/
theorem run_rows {wb w : World} {B : Nat} {v : Value} {L Q : List (List UInt8)} {A : Option Addr} {cap : Nat} (ty : TypeId) (h : OR wb B v L w) (hs : Src wb w A Q) (hn : L.length + Q.length ≤ 1000000) (hB : B ≤ w.heap.size) :
    ∃ v' w', (Builtin.append_ #[38, 38] ty #[v, .slice A Q.length cap]).run Try.prog w = .ok v' w' ∧ OR wb B v' (L ++ Q) w' ∧ w.grownBy w' v.ownBlock ∧ (v'.ownBlock = v.ownBlock ∨ v'.ownBlock = some w.heap.size) := by
  obtain ⟨i0, hi, hz0, hz1, hz2⟩ := info_sl
  obtain ⟨xs, h3, h5⟩ := h
  have hxl : xs.length = L.length := by have := h3.1; omega
  rcases Nat.eq_zero_or_pos Q.length with h0 | h0
  · obtain rfl : Q = [] := List.eq_nil_of_length_eq_zero h0
    refine ⟨v, w, ?_, ⟨xs, by rw [List.append_nil]; exact h3, by rw [List.append_nil]; exact h5⟩, ⟨rfl, rfl, rfl, Nat.le_refl _, fun _ _ _ => rfl⟩, .inl rfl⟩
    rcases h3.2 with ⟨rfl, _⟩ | ⟨g, cap', cur, rfl, _, _, hnc, _⟩
    · cases A <;> simp [Builtin.append_, run_underlying rows_under2, sizeOf, typeInfo, hi, Builtin.lenOf, Builtin.firstCells, loadCells, loadCellsFrom]
    · cases A <;> simp [Builtin.append_, run_underlying rows_under2, sizeOf, typeInfo, hi, Builtin.lenOf, Builtin.firstCells, loadCells, loadCellsFrom, storeCells, hnc]
  · obtain ⟨b, off, rfl, hc⟩ := hs h0
    have hex : ∀ j, ∃ u : Value, j < Q.length → w.cell? ⟨b, off + j, none⟩ = some u ∧ u.oneCell' = true ∧ ∀ y, Q[j]? = some y → ∃ A c, u = .slice A y.length c ∧ y.length ≤ c ∧ Rd wb A y := fun j => by
      by_cases hj : j < Q.length
      · obtain ⟨A', c, h1, h2, h3⟩ := hc j Q[j] (List.getElem?_eq_getElem hj)
        refine ⟨_, fun _ => ⟨h1, rfl, fun y hy => ?_⟩⟩
        rw [List.getElem?_eq_getElem hj] at hy
        injection hy with hy
        subst hy
        exact ⟨A', c, rfl, h2, h3⟩
      · exact ⟨undef, fun h => absurd h hj⟩
    obtain ⟨f, hf⟩ := Classical.axiomOfChoice hex
    obtain ⟨ys, hys⟩ : ∃ ys, ys = (List.range Q.length).map f := ⟨_, rfl⟩
    have hyl : ys.length = Q.length := by rw [hys]; simp
    have hya : ∀ j, j < Q.length → ys[j]? = some (f j) := fun j hj => by rw [hys]; simp [hj]
    obtain ⟨v', w', r1, r2, r3, _, r5⟩ := run_append_own_at (P := Try.prog) (w := w) B 38 ty 36 i0 (.slice none 0 0) 1 24 rows_under2 hi hz0 hz1 hz2 rfl (by decide) v L.length xs h3 ⟨b, off, none⟩ Q.length cap ys (by omega)
      (fun j u hu => by
        have hj : j < Q.length := by have := (List.getElem?_eq_some_iff.1 hu).1; omega
        rw [hya j hj] at hu
        injection hu with hu
        rw [add_plain, ← hu]
        exact (hf j hj).1)
      (fun u hu => by
        obtain ⟨j, hj, rfl⟩ := List.getElem_of_mem hu
        have := hya j (by omega)
        rw [List.getElem?_eq_getElem hj] at this
        injection this with this
        rw [this]
        exact (hf j (by omega)).2.1)
      (by unfold maxLen; omega) (by omega) hB
    refine ⟨v', w', r1, ⟨xs ++ ys, by rw [List.length_append]; exact r2, fun j y hj => ?_⟩, r3, r5⟩
    by_cases hj1 : j < L.length
    · rw [List.getElem?_append_left hj1] at hj
      rw [List.getElem?_append_left (by omega)]
      exact h5 j y hj
    · have hj2 : j - L.length < Q.length := by have := (List.getElem?_eq_some_iff.1 hj).1; rw [List.length_append] at this; omega
      rw [List.getElem?_append_right (by omega)] at hj
      obtain ⟨A, c, h6, h7, h8⟩ := (hf (j - L.length) hj2).2.2 y hj
      exact ⟨A, c, by rw [List.getElem?_append_right (by omega), hxl, hya _ hj2, h6], h7, h8⟩

/-- In a walk that draws no order. -/
theorem wpList_rows {w wb : World} {ops : Array Oper} {rest : List Oper} {o : Oper} {a : Act} {Q : Exit → Act → World → Prop} (hg : o.guard = none) (s x : Operand)
    (hop : o.op = Op.call { callee := Callee.builtin Builtin.append, args := #[s, x], argTypes := #[38, 38] }) {v : Value} {A : Option Addr} {L P L3 : List (List UInt8)} {cap B : Nat} (h3 : L3 = L ++ P) (hs : a.eval s = v) (hx : a.eval x = .slice A P.length cap)
    (h : OR wb B v L w) (hsrc : Src wb w A P) (hn : L.length + P.length ≤ 1000000) (hB : B ≤ w.heap.size)
    (hK : ∀ v' w', Hid (OR wb B v' L3 w') → Hid (w.grownBy w' v.ownBlock) → wpList Try.prog ops Q rest (a.put o.dst v') w') : wpList Try.prog ops Q (o :: rest) a w := by
  subst h3
  refine wpList_plain hg fun K hK' => ?_
  obtain ⟨v', w', r1, r2, r3, _⟩ := run_rows (cap := cap) o.type h hsrc hn hB
  unfold Oper.wp
  simp [execOp, hop, resolve, invoke, builtin, hs, hx, r1, Result.andThen]
  exact hK' _ _ (hK v' w' r2 r3)

/-- A row in a copy is turned. -/
theorem OR.set_ {wb w : World} {B g cap : Nat} {L : List (List UInt8)} (h : OR wb B (.slice (some ⟨g, 0, none⟩) L.length cap) L w) {k : Nat} (hk : k < L.length) {z : List UInt8} {A : Option Addr} {c : Nat} (hr : Rd wb A z) (hc : z.length ≤ c) :
    OR wb B (.slice (some ⟨g, 0, none⟩) L.length cap) (L.set k z) (w.setCell ⟨g, k, none⟩ (.slice A z.length c)) := by
  obtain ⟨xs, h1, h3⟩ := h
  have hxl : xs.length = L.length := by have := h1.1; omega
  rcases h1.2 with ⟨h, _⟩ | ⟨g', cap', cur, he, hb, hg, hn, hm, hsz, hx⟩
  · cases h
  · injection he with he1 he2 he3
    injection he1 with he1
    injection he1 with he1
    subst he1 he3
    have hg2 : (w.setCell ⟨g, k, none⟩ (.slice A z.length c)).heap[g]? = some (.cells (cur.set! k (.slice A z.length c)) 36 (0, 0)) := by
      simp [World.setCell, Array.getElem?_modify, hg, Array.set!_eq_setIfInBounds]
    refine ⟨xs.set k (.slice A z.length c), ⟨by simp [hxl], .inr ⟨g, cap, cur.set! k (.slice A z.length c), by simp, hb, hg2, by simpa using hn, hm, by simpa using hsz, ?_⟩⟩, fun j y hj => ?_⟩
    · rw [← hx]
      simp [List.take_set]
    · by_cases hjk : j = k
      · subst hjk
        rw [List.getElem?_set_self (by omega)] at hj
        injection hj with hj
        subst hj
        exact ⟨A, c, by rw [List.getElem?_set_self (by omega)], hc, hr⟩
      · rw [List.getElem?_set_ne (by omega)] at hj
        rw [List.getElem?_set_ne (by omega)]
        exact h3 j y hj
/-- What stands in a copy; it is not frozen. -/
theorem OR.at_ {wb w : World} {B g cap : Nat} {L : List (List UInt8)} (h : OR wb B (.slice (some ⟨g, 0, none⟩) L.length cap) L w) {k : Nat} {y : List UInt8} (hy : L[k]? = some y) : ∃ A c, w.cell? ⟨g, k, none⟩ = some (.slice A y.length c) ∧ w.frozen? ⟨g, k, none⟩ = false ∧ y.length ≤ c ∧ Rd wb A y := by
  obtain ⟨xs, h1, h3⟩ := h
  rcases h1.2 with ⟨h, _⟩ | ⟨g', cap', cur, he, hb, hg, hn, hm, hsz, hx⟩
  · cases h
  · injection he with he1 he2 he3
    injection he1 with he1
    injection he1 with he1
    subst he1 he3
    obtain ⟨A, c, h4, h5, h6⟩ := h3 k y hy
    refine ⟨A, c, ?_, by simp [World.frozen?, hg], h5, h6⟩
    rw [cell_of_row w g k cur _ _ hg]
    rw [← hx, List.getElem?_take] at h4
    split at h4
    · simpa using h4
    · cases h4

/-- One row in a copy, and it without its first byte. -/
theorem OR.pick {wb w : World} {B : Nat} {v : Value} {L : List (List UInt8)} (h : OR wb B v L w) {k : Nat} (hk : k < L.length) (hone : ∀ y, L[k]? = some y → 1 ≤ y.length) : ∃ (g cap c c2 : Nat) (y r : List UInt8) (A A2 : Option Addr), v = .slice (some ⟨g, 0, none⟩) L.length cap ∧ w.cell? ⟨g, k, none⟩ = some (.slice A y.length c) ∧ w.frozen? ⟨g, k, none⟩ = false ∧
    (∀ W, (Instr.sliceAt 36 (.slice A y.length c) (some (.int .i64 1)) none none).run Try.prog W = .ok (.slice A2 r.length c2) W) ∧ Hid (L[k]? = some y ∧ r = y.drop 1 ∧ r.length ≤ c2 ∧ Rd wb A2 r ∧ B ≤ g) := by
  obtain ⟨g, cap, he⟩ : ∃ g cap, v = .slice (some ⟨g, 0, none⟩) L.length cap := by
    obtain ⟨xs, h1, _⟩ := h
    rcases h1.2 with ⟨_, h0⟩ | ⟨g, cap, cur, rfl, _⟩
    · omega
    · exact ⟨g, cap, rfl⟩
  have hlt := h.lt g (by rw [he]; rfl)
  subst he
  have hy := List.getElem?_eq_getElem hk
  obtain ⟨A, c, h1, h2, h3, h4⟩ := h.at_ hy
  have h5 := hone _ hy
  refine ⟨g, cap, c, c - 1, L[k], (L[k]).drop 1, A, cutA A 1 c, rfl, h1, h2, fun W => ?_, hy, rfl, by rw [List.length_drop]; omega, h4.cut 1 c h3, hlt.1⟩
  have := sl_l W A (L[k]).length c 1 h5
  rw [List.length_drop]
  exact this

/-- Copied rows in a region. -/
def orow (wb : World) (L : List (List UInt8)) : Rc.Fact := ⟨fun x w S => OR wb 0 x L w ∧ ∀ b, x.ownBlock = some b → S b, fun _ _ _ _ h _ hb => ⟨h.1.keep fun b e => hb b (h.2 b e), h.2⟩⟩
section
variable {F : Nat → Rc.Fact} {cons : List (Nat × Nat)} {E : Nat → (Nat → Value) → Value → Prop} {V : Nat → Value} {S : Nat → Nat → Prop} {j : Nat} {o : Oper} {b : Act} {w wb : World}
theorem step_onil (hop : o.op = .buildSlice 38 0 #[]) (hF : F j = orow wb []) (hE : ∀ v, E j V v) (hg : Rg.Open o V) : Rg.Does1 Try.prog o V b w (Rc.Good F cons E V S j w) := by
  refine .of hg fun K hK => ?_
  have hrun : (execOp b.eval o).run Try.prog w = .ok (.value (.slice (some ⟨w.heap.size, 0, none⟩) 0 0)) (w.alloc (.cells #[] 36)) := by
    obtain ⟨dst, op, ty, pos, after, guard⟩ := o
    simp only at hop
    subst hop
    simp only [execOp, List.map_toArray, List.map_nil]
    go_simp
  unfold Oper.wp
  rw [hrun]
  exact hK _ _ ⟨fun b => b = w.heap.size, (Mod.of_below (below_new w _) _), by rw [hF]; exact ⟨(OR.none_new wb w).mono (Nat.zero_le _), fun b hb => by simp [Value.ownBlock] at hb; exact hb.symm⟩, fun k hk => ⟨.inr (by omega), by rw [World.size_alloc]; omega⟩, hE _⟩
theorem step_rapp {i : Nat} (L Q L3 : List (List UInt8)) (hL : L3 = L ++ Q) {X : Option Addr} {cap : Nat} {s y : Operand} (hop : o.op = .call { callee := .builtin .append, args := #[s, y], argTypes := #[38, 38] }) (hs : b.eval s = V i) (hx : b.eval y = .slice X Q.length cap) (hF : F j = orow wb L3) (hi : (j, i) ∈ cons)
    (h1 : (orow wb L).holds (V i) w (S i)) (hq : Src wb w X Q) (_hl1 : ∀ b, S i b → b < w.heap.size) (hn : L.length + Q.length ≤ 1000000) (hE : ∀ v, E j V v) (hg : Rg.Open o V) : Rg.Does1 Try.prog o V b w (Rc.Good F cons E V S j w) := by
  subst hL
  refine .of hg fun K hK => ?_
  obtain ⟨v', w', r1, r2, r3, r4⟩ := run_rows (cap := cap) o.type h1.1 hq hn (Nat.zero_le _)
  unfold Oper.wp
  simp [execOp, hop, resolve, invoke, builtin, hs, hx, r1, Result.andThen]
  refine hK v' w' ⟨fun b => v'.ownBlock = some b, ⟨r3.os, r3.tape, r3.output, r3.size, fun m hm hn => r3.block m hm fun e => hn ⟨i, hi, h1.2 m e.symm⟩⟩, by rw [hF]; exact ⟨r2, fun b h => h⟩, fun m hm => ⟨?_, (r2.lt m hm).2⟩, hE _⟩
  rcases r4 with e | e
  · exact .inl ⟨i, hi, h1.2 m (e ▸ hm)⟩
  · rw [e] at hm; injection hm with hm; exact .inr (by omega)
end
end Go.Proofs.Ytkjkmdhbodjeeaa
