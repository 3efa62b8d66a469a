/-
  OWN WORK. Rows of rows in a box: what a loop's body that collects copies keeps.
-/
import Derived.Test.YtkjkmdhbodjeeaaBmChunk
import Derived.Test.YtkjkmdhbodjeeaaMkRows
import Derived.Maps.AppendAt
namespace Go.Proofs.Ytkjkmdhbodjeeaa
open Go.RowKit Go.Shelf

/-- Rows of a call's own behind a box and two more: none of their blocks is one of these. -/
def CRows (n₀ B : Nat) (W : World) (v : Value) (L : List (List UInt8)) : Prop :=
  ∃ xs : List Value, W.ownsRow n₀ 36 1 v L.length xs ∧ (∀ g, v.ownBlock = some g → g < B ∨ B + 2 < g) ∧
    ∀ (j : Nat) (y : List UInt8), L[j]? = some y → ∃ g c, xs[j]? = some (Value.slice (some ⟨g, 0, none⟩) y.length c) ∧ y.length ≤ c ∧ Rd W (some ⟨g, 0, none⟩) y ∧ B + 2 < g ∧ g < W.heap.size ∧ v.ownBlock ≠ some g

theorem CRows.kept {n₀ B : Nat} {W W' : World} {v : Value} {L : List (List UInt8)} (h : CRows n₀ B W v L) (hs : W.heap.size ≤ W'.heap.size) (hk : ∀ b o, W.heap[b]? = some o → o.isCells = true → (b < B ∨ B + 2 < b) → W'.heap[b]? = some o) : CRows n₀ B W' v L := by
  obtain ⟨xs, h1, h2, h3⟩ := h
  refine ⟨xs, ⟨h1.1, ?_⟩, h2, fun j y hj => ?_⟩
  · rcases h1.2 with h | ⟨g, cap, cur, h4, h5, h6, h7⟩
    · exact .inl h
    · subst h4
      exact .inr ⟨g, cap, cur, rfl, h5, hk g _ h6 rfl (h2 g rfl), h7⟩
  · obtain ⟨g, c, h4, h5, h6, h7, h8, h9⟩ := h3 j y hj
    refine ⟨g, c, h4, h5, ?_, h7, Nat.lt_of_lt_of_le h8 hs, h9⟩
    intro hl
    obtain ⟨b, off, he, hb, hc⟩ := h6 hl
    injection he with he
    injection he with e1 e2 _
    subst e1
    refine ⟨g, off, by rw [e2], Nat.lt_of_lt_of_le hb hs, fun j x hx => ?_⟩
    have h10 := hc j x hx
    obtain ⟨o, ho, hoc⟩ := cells_of_cell h10
    exact (World.cell?_of_block (w := W) (w' := W') (a := ⟨g, off + j, none⟩) ((hk g o ho hoc (.inr h7)).trans ho.symm)).trans h10

theorem CRows.below {n₀ B : Nat} {W W' : World} {v : Value} {L : List (List UInt8)} (h : CRows n₀ B W v L) (hb : Below W.heap.size W W') : CRows n₀ B W' v L :=
  h.kept hb.size fun b _ ho _ _ => (hb.block b (Array.getElem?_eq_some_iff.1 ho).1).trans ho
theorem CRows.box {n₀ B : Nat} {W : World} {v : Value} {L : List (List UInt8)} (h : CRows n₀ B W v L) (u : Value) : CRows n₀ B (W.setCell ⟨B, 0, none⟩ u) v L :=
  h.kept (by simp [World.setCell]) fun b _ ho _ hb => (Below.heap_setCell W ⟨B, 0, none⟩ u b (by show b ≠ B; omega)).trans ho
theorem CRows.other {n₀ B : Nat} {W W' : World} {row : Option Nat} {v : Value} {L : List (List UInt8)} (h : CRows n₀ B W v L) (hg : W.grownBy W' row) (hrow : ∀ r, row = some r → ∃ o : Obj, W.heap[r]? = some o ∧ o.isCells = false) : CRows n₀ B W' v L :=
  h.kept hg.size fun _ _ ho hc _ => (grownBy_keeps_cells hg hrow ho hc).trans ho

/-- They are read. -/
theorem CRows.rd {n₀ B : Nat} {W : World} {v : Value} {L : List (List UInt8)} (h : CRows n₀ B W v L) : ∃ A c, v = .slice A L.length c ∧ L.length ≤ c ∧ RdL W A L := by
  obtain ⟨xs, h1, h2, h3⟩ := h
  rcases h1.2 with ⟨rfl, h0⟩ | ⟨g, cap, cur, rfl, hb, hg, hn, hm, hsz, hx⟩
  · exact ⟨none, 0, by rw [h0], by omega, fun hp => by omega⟩
  · refine ⟨_, cap, rfl, hn, fun _ => ⟨g, 0, rfl, (Array.getElem?_eq_some_iff.1 hg).1, fun j y hj => ?_⟩⟩
    obtain ⟨g', c, h4, h5, h6, _⟩ := h3 j y hj
    refine ⟨_, c, ?_, h5, h6⟩
    rw [cell_of_row W g (0 + j) cur _ _ hg, Nat.zero_add]
    rw [← hx, List.getElem?_take] at h4
    split at h4
    · simpa using h4
    · cases h4

/-- One row more behind them. -/
theorem CRows.push {n₀ B : Nat} {W : World} {v : Value} {L : List (List UInt8)} (h : CRows n₀ B W v L) (hn : n₀ ≤ W.heap.size) (hB : B + 2 < W.heap.size) {y : List UInt8} {g c N : Nat} (hc : y.length ≤ c) (hr : Rd W (some ⟨g, 0, none⟩) y) (hg : B + 2 < g) (hgl : g < W.heap.size) (hv : v.ownBlock ≠ some g) (hN : W.cell? ⟨N, 0, none⟩ = some (.slice (some ⟨g, 0, none⟩) y.length c)) (hl : L.length + 1 ≤ 1000000000) (ty : TypeId) :
    ∃ v' w', (Builtin.append_ #[38, 38] ty #[v, .slice (some ⟨N, 0, none⟩) 1 1]).run Try.prog W = .ok v' w' ∧ CRows n₀ B w' v' (L ++ [y]) ∧ W.grownBy w' v.ownBlock ∧ ∃ X k, v' = .slice (some ⟨X, 0, none⟩) (L.length + 1) k := by
  obtain ⟨i0, hi, hz0, hz1, hz2⟩ := info_sl
  obtain ⟨xs, h3, h4, h5⟩ := h
  have hxl : xs.length = L.length := by have := h3.1; omega
  obtain ⟨v', w', r1, r2, r3, _, r5⟩ := run_append_own_at (P := Try.prog) (w := W) n₀ 38 ty 36 i0 (.slice none 0 0) 1 24 rows_under2 hi hz0 hz1 hz2 rfl (by decide) v L.length xs h3 ⟨N, 0, none⟩ 1 1 [.slice (some ⟨g, 0, none⟩) y.length c] rfl
    (fun j u hu => by
      have hj : j = 0 := by have := (List.getElem?_eq_some_iff.1 hu).1; simp at this; exact this
      subst hj
      rw [add_plain]
      simp at hu
      rw [← hu]
      exact hN) (fun u hu => by simp at hu; rw [hu]; rfl) (by unfold maxLen; omega) (by omega) hn
  have hnew : ∀ b, b < W.heap.size → v.ownBlock ≠ some b → v'.ownBlock ≠ some b := fun b hb hne e => by
    rcases r5 with e2 | e2
    · exact hne (e2 ▸ e)
    · rw [e2] at e; injection e with e; omega
  refine ⟨v', w', r1, ⟨xs ++ [.slice (some ⟨g, 0, none⟩) y.length c], by rw [List.length_append]; exact r2, fun b hb => ?_, fun j z hj => ?_⟩, r3, ?_⟩
  · rcases r5 with e2 | e2
    · exact h4 b (e2 ▸ hb)
    · rw [e2] at hb; injection hb with hb; exact .inr (by omega)
  · have old : ∀ {g' : Nat} {z : List UInt8}, Rd W (some ⟨g', 0, none⟩) z → v.ownBlock ≠ some g' → Rd w' (some ⟨g', 0, none⟩) z := fun hz hne => hz.grown r3 (fun b hb => by simp at hb; rw [← hb]; exact hne)
    by_cases hj1 : j < L.length
    · rw [List.getElem?_append_left hj1] at hj
      obtain ⟨g', c', h9, h10, h11, h12, h13, h14⟩ := h5 j z hj
      refine ⟨g', c', ?_, h10, old h11 h14, h12, Nat.lt_of_lt_of_le h13 r3.size, hnew _ h13 h14⟩
      rw [List.getElem?_append_left (by omega)]
      exact h9
    · have hjl : j = L.length := by have := (List.getElem?_eq_some_iff.1 hj).1; simp at this; omega
      subst hjl
      obtain rfl : y = z := by simpa using hj
      refine ⟨g, c, ?_, hc, old hr hv, hg, Nat.lt_of_lt_of_le hgl r3.size, hnew _ hgl hv⟩
      rw [List.getElem?_append_right (by omega), hxl]
      simp
  · obtain ⟨X, k, e⟩ := ownsRow_succ r2
    exact ⟨X, k, e⟩

/-- What the box holds, and what the call has kept. -/
def CBox (n₀ B : Nat) (w W : World) (L : List (List UInt8)) : Prop := (∃ v, Boxed W B 38 v ∧ CRows n₀ B W v L) ∧ Below n₀ w W ∧ B + 2 < W.heap.size
theorem CBox.from {n₀ B M : Nat} {w : World} (hn : n₀ ≤ w.heap.size) (hM : n₀ ≤ M) {β : Type} (f : β → List (List UInt8)) : OwnFrom M (fun s W => CBox n₀ B w W (f s)) := fun s W W' row hs hg hr => by
  obtain ⟨⟨v, hv, hc⟩, hb, hB⟩ := hs
  have hr2 : ∀ r, row = some r → ∃ o : Obj, W.heap[r]? = some o ∧ o.isCells = false := fun r e => (hr r e).2
  refine ⟨⟨v, hv.kept hg (fun e => ?_), hc.other hg hr2⟩, ownFrom_below (β := Unit) hn hM () W W' row hb hg hr, Nat.lt_of_lt_of_le hB hg.size⟩
  obtain ⟨o, ho, hoc⟩ := hr2 B e.symm
  rw [show W.heap[B]? = _ from hv] at ho
  cases ho
  cases hoc
theorem CBox.drew {n₀ B : Nat} {w W : World} {L : List (List UInt8)} (h : CBox n₀ B w W L) : CBox n₀ B w W.drew L := by
  obtain ⟨⟨v, hv, hc⟩, hb, hB⟩ := h
  exact ⟨⟨v, hv, hc.kept (Nat.le_refl _) fun _ _ ho _ _ => ho⟩, Below.drew hb, hB⟩
/-- An append in a region that draws, within a fence. -/
theorem ready_append {F : Fence} {n : Nat} {P : Program} {ops : Array Oper} {o : Oper} {a : Act} {w w' : World} {K : Act → World → Prop} {Q : Exit → Act → World → Prop} {E : Prop} (hgd : o.guard = none) (s x : Operand) (t : TypeId) {v u v' : Value}
    (hop : o.op = Op.call { callee := Callee.builtin Builtin.append, args := #[s, x], argTypes := #[t, t] }) (hs : a.eval s = v) (hx : a.eval x = u) (hrun : (Builtin.append_ #[t, t] o.type #[v, u]).run P w = .ok v' w') (hK : K (a.put o.dst v') w') :
    if Region.wanted o (yielded ops a.tmps) = true then Oper.wpIn F n P o a w K Q else E := by
  rw [if_pos (by simp [Region.wanted, hgd])]
  unfold Oper.wpIn
  refine ⟨?_, ?_⟩
  · simp [Oper.about, hop, resolve, Target.leads, Sem.run_pure]
  · rw [Oper.semAt_plain F _ _ (by rw [hop]; intro c hc'; cases hc')]
    simp [execOp, hop, resolve, invoke, builtin, hs, hx, hrun, Result.andThen]
    exact hK

/-- A copy that is put behind what the box holds. -/
theorem cut_push {n₀ B : Nat} {W w1 : World} {v : Value} {L : List (List UInt8)} {y : List UInt8} {g c : Nat} (hrows : CRows n₀ B W v L) (hB3 : B + 2 < W.heap.size) (hnB : n₀ ≤ B) (hb1 : Below W.heap.size W.drew w1) (hyc : y.length ≤ c) (hgW : W.heap.size ≤ g) (hg1 : g < w1.heap.size) (hr1 : Rd w1 (some ⟨g, 0, none⟩) y) (hl : L.length + 1 ≤ 1000000000) (ty : TypeId) :
    ∃ v' w3, (Builtin.append_ #[38, 38] ty #[v, .slice (some ⟨w1.heap.size, 0, none⟩) 1 1]).run Try.prog (w1.alloc (.cells #[.slice (some ⟨g, 0, none⟩) y.length c] 36)) = .ok v' w3 ∧ CRows n₀ B w3 v' (L ++ [y]) ∧ (w1.alloc (.cells #[.slice (some ⟨g, 0, none⟩) y.length c] 36)).grownBy w3 v.ownBlock ∧ ∃ X k, v' = .slice (some ⟨X, 0, none⟩) (L.length + 1) k := by
  have hbW : Below W.heap.size W w1 := undrew hb1
  have hs1 : W.heap.size ≤ w1.heap.size := hbW.size
  have hb2 : Below W.heap.size W (w1.alloc (.cells #[.slice (some ⟨g, 0, none⟩) y.length c] 36)) := hbW.alloc hs1 _
  refine (hrows.below hb2).push (by rw [World.size_alloc]; omega) (by rw [World.size_alloc]; omega) hyc (hr1.below (below_new w1 _)) (by omega) (by rw [World.size_alloc]; omega) (fun e => ?_) (cell_one_new _ _ _ 0 _ rfl) hl ty
  obtain ⟨xs, q1, _⟩ := hrows
  rcases q1.2 with ⟨rfl, _⟩ | ⟨g', cap, cur, rfl, _, hgb, _⟩
  · simp [Value.ownBlock] at e
  · obtain rfl : g' = g := by simpa [Value.ownBlock] using e
    have := (Array.getElem?_eq_some_iff.1 hgb).1
    omega

/-- One round of a loop that collects copies: what stands behind it. -/
theorem cut_round {n₀ B : Nat} {w W w1 w3 : World} {v v' : Value} {L L' : List (List UInt8)} {o : Obj} (hv : Boxed W B 38 v) (hrows : CRows n₀ B W v L) (hB2 : Below n₀ w W) (hB3 : B + 2 < W.heap.size) (hnB : n₀ ≤ B) (hb1 : Below W.heap.size W.drew w1) (hg3 : (w1.alloc o).grownBy w3 v.ownBlock) (hr3 : CRows n₀ B w3 v' L') :
    Boxed w3 B 38 v ∧ KeepsOthers W (w3.setCell ⟨B, 0, none⟩ v') ∧ KpC (B + 1) (B + 2) W (w3.setCell ⟨B, 0, none⟩ v') ∧ CBox n₀ B w (w3.setCell ⟨B, 0, none⟩ v') L' := by
  have hbW : Below W.heap.size W w1 := undrew hb1
  have hs1 : W.heap.size ≤ w1.heap.size := hbW.size
  have hb2 : Below W.heap.size W (w1.alloc o) := hbW.alloc hs1 _
  have hr2 : CRows n₀ B (w1.alloc o) v L := hrows.below hb2
  obtain ⟨xs, q1, q2, _⟩ := hr2
  have hne : ∀ k, B ≤ k → k ≤ B + 2 → some k ≠ v.ownBlock := fun k h1 h2 e => by have := q2 k e.symm; omega
  have hk3 : ∀ k, B ≤ k → k ≤ B + 2 → w3.heap[k]? = W.heap[k]? := fun k h1 h2 =>
    (hg3.block k (by rw [World.size_alloc]; omega) (hne k h1 h2)).trans (hb2.block k (by omega))
  have hsz3 : W.heap.size ≤ w3.heap.size := Nat.le_trans hb2.size hg3.size
  have hw4 : ∀ k, k ≠ B → (w3.setCell ⟨B, 0, none⟩ v').heap[k]? = w3.heap[k]? := fun k hk => Below.heap_setCell w3 ⟨B, 0, none⟩ v' k hk
  have hv3 : Boxed w3 B 38 v := (hk3 B (Nat.le_refl _) (by omega)).trans hv
  refine ⟨hv3, ?_, ⟨?_, ?_⟩, ⟨⟨v', hv3.set v', hr3.box v'⟩, ?_, ?_⟩⟩
  · refine (KeepsOthers.of_grownBy (row := none) ⟨hbW.os, hbW.tape, hbW.output, hbW.size, fun i hi _ => hbW.block i hi⟩ (fun j o e => by cases e)).trans ((KeepsOthers.alloc w1 o).trans ((KeepsOthers.of_grownBy hg3 fun j o' ej hj => ?_).trans (KeepsOthers.setCell _ _ _)))
    rcases q1.2 with ⟨rfl, _⟩ | ⟨g, cap, cur, rfl, _, hgb, _⟩
    · simp [Value.ownBlock] at ej
    · obtain rfl : g = j := by simpa [Value.ownBlock] using ej
      rw [hgb] at hj; cases hj; rfl
  · exact World.cell?_of_block (w := W) ((hw4 (B + 1) (by omega)).trans (hk3 (B + 1) (by omega) (by omega)))
  · exact World.cell?_of_block (w := W) ((hw4 (B + 2) (by omega)).trans (hk3 (B + 2) (by omega) (by omega)))
  · refine ((hB2.trans (hb2.mono (by omega))).grown hg3 ?_ fun k e => ?_).setCell (p := ⟨B, 0, none⟩) hnB v'
    · have := hb2.size; omega
    · exact q1.ownBlock_ge k e
  · simp only [World.setCell, Array.size_modify]; omega
end Go.Proofs.Ytkjkmdhbodjeeaa
