/-
  OWN WORK. Rows of texts: as they are read, and as they are a call's own.
-/
import Derived.Test.YtpblhdpnmnfieaaLBaText
namespace Go.Proofs.Ytpblhdpnmnfieaa
open Go.RowKit

abbrev Bs := List UInt8
theorem Try.infoStr : (Try.prog.info? 9).map (fun i => (i.zero, i.size, i.bytes)) = some (some (.string .empty), 1, 16) := by kernel_rfl
def txtCells (l : List Bs) : List Value := l.map fun s => .string (strOf s)
theorem txtCells_length (l : List Bs) : (txtCells l).length = l.length := List.length_map _
theorem txtCells_append (a b : List Bs) : txtCells (a ++ b) = txtCells a ++ txtCells b := List.map_append
/-- A slice's address, behind which these texts stand. -/
def RdS (w : World) (A : Option Addr) (l : List Bs) : Prop :=
  0 < l.length → ∃ b off, A = some ⟨b, off, none⟩ ∧ b < w.heap.size ∧ ∀ j x, l[j]? = some x → w.cell? ⟨b, off + j, none⟩ = some (.string (strOf x))
theorem RdS.nil (w : World) (A : Option Addr) : RdS w A [] := fun h => absurd h (by simp)
theorem RdS.below {w w' : World} {A : Option Addr} {l : List Bs} (h : RdS w A l) (hb : Below w.heap.size w w') : RdS w' A l := fun hl => by
  obtain ⟨b, off, h1, h2, h3⟩ := h hl
  exact ⟨b, off, h1, Nat.lt_of_lt_of_le h2 hb.size, fun j x hx => (hb.cell (p := ⟨b, off + j, none⟩) h2).trans (h3 j x hx)⟩
theorem RdS.at_ {w : World} {A : Option Addr} {l : List Bs} (h : RdS w A l) {j : Nat} {x : Bs} (hj : l[j]? = some x) : ∃ b off, A = some ⟨b, off, none⟩ ∧ w.cell? ⟨b, off + j, none⟩ = some (.string (strOf x)) := by
  obtain ⟨b, off, h1, _, h3⟩ := h (by have := (List.getElem?_eq_some_iff.1 hj).1; omega)
  exact ⟨b, off, h1, h3 j x hj⟩
theorem RdS.take {w : World} {A : Option Addr} {l : List Bs} (h : RdS w A l) (k : Nat) : RdS w A (l.take k) := by
  intro hl
  rw [List.length_take] at hl
  obtain ⟨b, off, rfl, hlt, hcell⟩ := h (by omega)
  refine ⟨b, off, rfl, hlt, fun j x hx => hcell j x ?_⟩
  rw [List.getElem?_take] at hx
  split at hx
  · exact hx
  · cases hx
theorem RdS.grown {w w' : World} {A : Option Addr} {l : List Bs} {row : Option Nat} (h : RdS w A l) (hg : w.grownBy w' row) (hne : ∀ b, A.map (·.block) = some b → row ≠ some b) : RdS w' A l := fun hl => by
  obtain ⟨b, off, rfl, h2, h3⟩ := h hl
  exact ⟨b, off, rfl, Nat.lt_of_lt_of_le h2 hg.size, fun j x hx => (World.cell?_of_block (hg.block b h2 (fun e => hne b rfl e.symm))).trans (h3 j x hx)⟩
theorem txt_under : Try.prog.underlying 37 = some (.slice (Try.prog.elem 37)) := by kernel_rfl
theorem txt_size (w : World) : (sizeOf (Try.prog.elem 37)).run Try.prog w = .ok 1 w := by kernel_rfl
theorem sls_h (w : World) (A : Option Addr) (len cap n : Nat) (h : n ≤ cap) : (Instr.sliceAt 37 (.slice A len cap) none (some (.int .i64 n)) none).run Try.prog w = .ok (.slice A n cap) w := by
  rw [run_sliceAt_slice w _ _ _ _ _ txt_under, run_slice_h w _ _ _ _ txt_under .i64 n (by omega) (by omega), txt_size]
  have e : ∀ a : Addr, a.add 0 = a := fun a => by unfold Addr.add; simp
  cases A <;> simp [Result.andThen, sliced, e]
/-- The texts so far, as a row of the call's own. -/
def TAt (B : Nat) (v : Value) (l : List Bs) (w0 wr : World) : Prop :=
  wr.ownsRow B 9 1 v l.length (txtCells l) ∧ Below B w0 wr ∧ B = w0.heap.size
theorem TAt.nil (w : World) : TAt w.heap.size (.slice none 0 0) [] w w := ⟨⟨rfl, .inl ⟨rfl, rfl⟩⟩, Below.refl _ _, rfl⟩
theorem TAt.empty (w : World) : TAt w.heap.size (.slice (some ⟨w.heap.size, 0, none⟩) 0 0) [] w (w.alloc (.cells #[] 9)) :=
  ⟨⟨rfl, .inr ⟨w.heap.size, 0, #[], rfl, Nat.le_refl _, heap_alloc_new w _, Nat.le_refl _, by unfold maxLen; omega, rfl, rfl⟩⟩, below_new w _, rfl⟩
theorem owned_below {w wa : World} {B e n : Nat} {v : Value} {xs : List Value} (h : w.ownsRow B e 1 v n xs) (ha : Below w.heap.size w wa) : wa.ownsRow B e 1 v n xs := by
  refine ⟨h.1, ?_⟩
  rcases h.2 with h2 | ⟨g, cap, cur, h3, h4, h5, h6⟩
  · exact .inl h2
  · refine .inr ⟨g, cap, cur, h3, h4, (ha.block g ?_).trans h5, h6⟩
    rcases Nat.lt_or_ge g w.heap.size with hlt | hge
    · exact hlt
    · rw [Array.getElem?_eq_none hge] at h5; cases h5
theorem TAt.own {B : Nat} {v : Value} {l : List Bs} {w0 wr wa : World} (h : TAt B v l w0 wr) (ha : Below wr.heap.size wr wa) : wa.ownsRow B 9 1 v l.length (txtCells l) := owned_below h.1 ha
theorem TAt.push {B : Nat} {v v' : Value} {l x : List Bs} {w0 wr wa w' : World} (h : TAt B v l w0 wr) (ha : Below wr.heap.size wr wa) (hown : w'.ownsRow B 9 1 v' (l.length + x.length) (txtCells l ++ txtCells x)) (hg : wa.grownBy w' v.ownBlock) : TAt B v' (l ++ x) w0 w' := by
  refine ⟨by rw [List.length_append, txtCells_append]; exact hown, ?_, h.2.2⟩
  have hb : Below B w0 wa := h.2.1.trans (ha.mono (by have := h.2.1.size; have := h.2.2; omega))
  exact hb.grown hg (by have := h.2.1.size; have := ha.size; have := h.2.2; omega) (fun k hk => h.1.ownBlock_ge k hk)
theorem TAt.below {B : Nat} {v : Value} {l : List Bs} {w0 wr w' : World} (h : TAt B v l w0 wr) (hb : Below wr.heap.size wr w') : TAt B v l w0 w' :=
  ⟨owned_below h.1 hb, h.2.1.trans (hb.mono (by have := h.2.1.size; have := h.2.2; omega)), h.2.2⟩
theorem TAt.later {B : Nat} {v : Value} {l : List Bs} {w0 wr : World} (h : TAt B v l w0 wr) : Below w0.heap.size w0 wr := h.2.2 ▸ h.2.1
/-- As a slice that is read. -/
theorem TAt.form {B : Nat} {v : Value} {l : List Bs} {w0 wr : World} (h : TAt B v l w0 wr) : ∃ X c, v = .slice X l.length c ∧ l.length ≤ c ∧ RdS wr X l := by
  rcases h.1.2 with ⟨rfl, h1⟩ | ⟨g, cap, cur, rfl, hb, hh, hc, _, hcs, htk⟩
  · have : l = [] := List.eq_nil_of_length_eq_zero h1
    subst this
    exact ⟨none, 0, rfl, Nat.le_refl _, RdS.nil _ _⟩
  · refine ⟨_, cap, rfl, hc, fun _ => ⟨g, 0, rfl, (Array.getElem?_eq_some_iff.1 hh).1, fun j x hx => ?_⟩⟩
    have hj : j < l.length := (List.getElem?_eq_some_iff.1 hx).1
    rw [cell_of_row wr g _ cur 9 (0, 0) hh, Nat.zero_add]
    have e : (cur.toList.take (l.length * 1))[j]? = some (.string (strOf x)) := by
      rw [htk]; simp [txtCells, hx]
    rw [List.getElem?_take_of_lt (by omega)] at e
    simpa using e
theorem txt_one (l : List Bs) : ∀ v ∈ txtCells l, v.oneCell' = true := by
  intro v hv
  simp only [txtCells, List.mem_map] at hv
  obtain ⟨x, _, rfl⟩ := hv
  rfl
/-- Texts that are read, nil or not, go behind a row of the call's own. -/
theorem run_append_txts (w : World) (base : Nat) (v : Value) (n : Nat) (xs : List Value) (hown : w.ownsRow base 9 1 v n xs) (A : Option Addr) (l : List Bs) (c : Nat) (hr : RdS w A l) (hn : n + l.length ≤ 68719476736) (hbase : base ≤ w.heap.size) (ty : TypeId) :
    ∃ v' w', (Builtin.append_ #[37, 37] ty #[v, .slice A l.length c]).run Try.prog w = .ok v' w' ∧ w'.ownsRow base 9 1 v' (n + l.length) (xs ++ txtCells l) ∧ w.grownBy w' v.ownBlock := by
  obtain ⟨i, hi, hz, hsize, hby⟩ := info_parts Try.infoStr
  cases A with
  | none =>
    have hl : l = [] := by
      rcases Nat.eq_zero_or_pos l.length with h | h
      · exact List.eq_nil_of_length_eq_zero h
      · obtain ⟨b, off, h1, _⟩ := hr h
        cases h1
    subst hl
    refine ⟨v, w, ?_, by simpa [txtCells] using hown, ⟨rfl, rfl, rfl, Nat.le_refl _, fun _ _ _ => rfl⟩⟩
    show (Builtin.append_ #[37, 37] ty #[v, .slice none 0 c]).run Try.prog w = .ok v w
    have ht := Try.underlying37
    rcases hown.2 with ⟨rfl, rfl⟩ | ⟨g, cap, cur, rfl, _, _, hnc, _⟩
    · simp [Builtin.append_, run_underlying ht, sizeOf, typeInfo, hi, Builtin.lenOf, Builtin.firstCells]
    · simp [Builtin.append_, run_underlying ht, sizeOf, typeInfo, hi, Builtin.lenOf, Builtin.firstCells, hnc, storeCells]
  | some ad =>
    have hc : ∀ j u, (txtCells l)[j]? = some u → w.cell? (ad.add j) = some u := by
      intro j u hu
      simp only [txtCells, List.getElem?_map, Option.map_eq_some_iff] at hu
      obtain ⟨x, hx, rfl⟩ := hu
      obtain ⟨b, off, h1, _, h2⟩ := hr (by have := (List.getElem?_eq_some_iff.1 hx).1; omega)
      obtain rfl : ad = ⟨b, off, none⟩ := by injection h1
      rw [add_plain]
      exact h2 j x hx
    obtain ⟨v', w', h1, h2, h3, _⟩ := run_append_own (P := Try.prog) (w := w) base 37 ty 9 i (.string .empty) 1 16 Try.underlying37 hi hz hsize hby rfl (by decide) v n xs hown ad l.length c (txtCells l) (by simp [txtCells_length]) hc (txt_one l) (by unfold maxLen; omega) (by omega) hbase
    exact ⟨v', w', h1, h2, h3⟩
theorem wpList_append_txts {w : World} {ops : Array Oper} {rest : List Oper} {o : Oper} {a : Act} {Q : Exit → Act → World → Prop} (hgd : Region.wanted o (yielded ops a.tmps) = true) (s x : Operand)
    (ho : o.op = .call { callee := .builtin .append, args := #[s, x], argTypes := #[37, 37] })
    {B : Nat} {v : Value} {l : List Bs} {w0 wr : World} (hs : a.eval s = v) (hI : TAt B v l w0 wr) (hw : Below wr.heap.size wr w) (A : Option Addr) (y : List Bs) (m c : Nat) (hm : y.length = m) (hx : a.eval x = .slice A m c) (hr : RdS w A y) (hn : l.length + y.length ≤ 68719476736)
    (h : ∀ v' w', Hid (TAt B v' (l ++ y) w0 w') → Hid (w.grownBy w' v.ownBlock) → wpList Try.prog ops Q rest (a.put o.dst v') w') : wpList Try.prog ops Q (o :: rest) a w := by
  subst hm
  refine wpList_step fun K hK => ?_
  rw [if_pos hgd]
  obtain ⟨v', w', hrun, h1, h2⟩ := run_append_txts w B v l.length (txtCells l) (hI.own hw) A y c hr hn (by have := hI.2.1.size; have := hI.2.2; have := hw.size; omega) o.type
  unfold Oper.wp
  simp [execOp, ho, resolve, invoke, builtin, hs, hx, hrun, Result.andThen]
  exact hK _ _ (h v' w' (hI.push hw h1 h2) h2)
/-- One text in a block of its own. -/
theorem rds_one (w : World) (x : Bs) (t : TypeId) : RdS (w.alloc (.cells #[.string (strOf x)] t)) (some ⟨w.heap.size, 0, none⟩) [x] := by
  intro _
  refine ⟨_, _, rfl, by rw [World.size_alloc]; omega, fun j y hy => ?_⟩
  have hj : j = 0 := by
    have := (List.getElem?_eq_some_iff.1 hy).1
    simp at this
    exact this
  subst hj
  obtain rfl : x = y := by simpa using hy
  rw [World.cell?_alloc_at _ _ _ _ rfl]
  rfl
/-- A row of texts that is made as it stands. -/
theorem rds_alloc (w : World) (l : List Bs) (t : TypeId) (fz : Nat × Nat) : RdS (w.alloc (.cells (txtCells l).toArray t fz)) (some ⟨w.heap.size, 0, none⟩) l := fun _ => by
  refine ⟨_, _, rfl, by rw [World.size_alloc]; omega, fun j x hx => ?_⟩
  rw [cell_of_row _ w.heap.size (0 + j) _ _ _ (heap_alloc_new w _), Nat.zero_add]
  simp only [List.getElem?_toArray, txtCells, List.getElem?_map, hx, Option.map_some]
end Go.Proofs.Ytpblhdpnmnfieaa
