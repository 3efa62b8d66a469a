/-
  OWN WORK. Regions that draw their order and make memory: what is held may grow on the way.
-/
import Derived.Test.YtbdbccdkimkhbaaDoorShRefL
import Derived.OrdersHeld
import Derived.Maps.AppendAt
namespace Go.Proofs.YtbdbccdkimkhbaaDoor
open Go.RowKit Sh

section
variable {P : Program} {ops : Array Oper} {Q : Exit → Act → World → Prop} {md : Region.Mode}
/-- What is held may be made more on the way. -/
theorem wpAnyH_more {S S' : World → Prop} (h : ∀ w, S' w → S w) : ∀ (fuel : Nat) (listed : Array Bool) (a : Act) (w : World), wpAnyH P md ops Q S' fuel listed a w → wpAnyH P md ops Q S fuel listed a w
  | 0, _, _, _, hk => hk
  | fuel + 1, _, _, _, hk => ⟨hk.1, fun i hi => wpOp_mono (fun _ _ h' => ⟨h _ h'.1, wpAnyH_more h fuel _ _ _ h'.2⟩) (hk.2 i hi)⟩
theorem wpOp_go {j : Nat} {o : Oper} {a : Act} {w : World} {K : Act → World → Prop} (ho : ops[j]? = some o) (hw : Region.wanted o (yielded ops a.tmps) = true) (h : o.wp P a w K Q) : wpOp P ops Q j K a w := by
  unfold Go.wpOp
  simp only [ho, hw, if_true]
  exact .inl h
/-- One operation alone may come up. -/
theorem wpAnyH_one {S : World → Prop} {j : Nat} {o : Oper} {fuel : Nat} {listed : Array Bool} {a : Act} {w : World} (hr : Region.ready md ops listed = [j]) (ho : ops[j]? = some o) (hw : Region.wanted o (yielded ops a.tmps) = true)
    (h : ∀ K : Act → World → Prop, (∀ a' w', S w' → wpAnyH P md ops Q S fuel (listed.setIfInBounds j true) a' w' → K a' w') → o.wp P a w K Q) : wpAnyH P md ops Q S (fuel + 1) listed a w := by
  refine wpAnyH_all hr (by simp) ?_
  intro i hi
  obtain rfl : i = j := by simpa using hi
  exact wpOp_go ho hw (h _ (fun a' w' h1 h2 => ⟨h1, h2⟩))
/-- Either of two may come up. -/
theorem wpAnyH_two {S : World → Prop} {j k : Nat} {o o' : Oper} {fuel : Nat} {listed : Array Bool} {a : Act} {w : World} (hr : Region.ready md ops listed = [j, k]) (ho : ops[j]? = some o) (hw : Region.wanted o (yielded ops a.tmps) = true)
    (ho' : ops[k]? = some o') (hw' : Region.wanted o' (yielded ops a.tmps) = true)
    (h : ∀ K : Act → World → Prop, (∀ a' w', S w' → wpAnyH P md ops Q S fuel (listed.setIfInBounds j true) a' w' → K a' w') → o.wp P a w K Q)
    (h' : ∀ K : Act → World → Prop, (∀ a' w', S w' → wpAnyH P md ops Q S fuel (listed.setIfInBounds k true) a' w' → K a' w') → o'.wp P a w K Q) : wpAnyH P md ops Q S (fuel + 1) listed a w := by
  refine wpAnyH_all hr (by simp) ?_
  intro i hi
  rcases (by simpa using hi : i = j ∨ i = k) with rfl | rfl
  · exact wpOp_go ho hw (h _ (fun a' w' h1 h2 => ⟨h1, h2⟩))
  · exact wpOp_go ho' hw' (h' _ (fun a' w' h1 h2 => ⟨h1, h2⟩))
end

/-- All that was there is there. -/
def Later (w w' : World) : Prop := Below w.heap.size w w'
theorem Later.refl (w : World) : Later w w := Below.refl _ _
theorem Later.trans {a b c : World} (h : Later a b) (k : Later b c) : Later a c := Below.trans h (Below.mono k h.size)
theorem Later.rd {w w' : World} (h : Later w w') {A : Option Addr} {l : List UInt8} (hr : Rd w A l) : Rd w' A l := hr.below h
theorem Later.kat {w w' : World} (h : Later w w') (hk : KAt w) : KAt w' := hk.below h hk.pos
theorem Later.st {w w' : World} (h : Later w w') {B : Nat} {l : List UInt8} (hs : St w B l) : St w' B l := hs.below h
theorem Later.drew (w : World) : Later w w.drew := Below.drew (Below.refl _ _)
theorem Later.alloc (w : World) (o : Obj) : Later w (w.alloc o) := (Below.refl _ _).alloc (Nat.le_refl _) o

/-- An append behind an own row, as one operation: what stays, and where the new row lies. -/
theorem wp_append_at {P : Program} {o : Oper} {a : Act} {w : World} {K : Act → World → Prop} {Q : Exit → Act → World → Prop} (s x : Operand) (t : TypeId)
    (ho : o.op = .call { callee := .builtin .append, args := #[s, x], argTypes := #[t, t] })
    (base : Nat) (e : TypeId) (i : TypeInfo) (ht : P.underlying t = some (.slice e)) (hi : P.info? e = some i) (hz : i.zero = some (.int .u8 0)) (hsize : i.size = 1) (hby : i.bytes = 1)
    (v : Value) (n : Nat) (xs : List Value) (hs : a.eval s = v) (hown : w.ownsRow base e 1 v n xs) (A : Option Addr) (l : List UInt8) (m c : Nat) (hm : l.length = m) (hx : a.eval x = .slice A m c) (hr : Rd w A l) (hn : n + l.length ≤ 1099511627776) (hbase : base ≤ w.heap.size)
    (h : ∀ v' w', Hid (w'.ownsRow base e 1 v' (n + l.length) (xs ++ Lib.byteCells l)) → Hid (w.grownBy w' v.ownBlock) → Hid (v'.ownBlock = v.ownBlock ∨ v'.ownBlock = some w.heap.size) → K (a.put o.dst v') w') : o.wp P a w K Q := by
  subst hm
  have hrun : ∃ v' w', (Builtin.append_ #[t, t] o.type #[v, .slice A l.length c]).run P w = .ok v' w' ∧ w'.ownsRow base e 1 v' (n + l.length) (xs ++ Lib.byteCells l) ∧ w.grownBy w' v.ownBlock ∧ (v'.ownBlock = v.ownBlock ∨ v'.ownBlock = some w.heap.size) := by
    cases A with
    | none =>
      have hl : l = [] := by
        rcases Nat.eq_zero_or_pos l.length with h | h
        · exact List.eq_nil_of_length_eq_zero h
        · obtain ⟨b, off, h1, _⟩ := hr h
          cases h1
      subst hl
      refine ⟨v, w, ?_, by simpa [Lib.byteCells] using hown, ⟨rfl, rfl, rfl, Nat.le_refl _, fun _ _ _ => rfl⟩, .inl rfl⟩
      show (Builtin.append_ #[t, t] o.type #[v, .slice none 0 c]).run P w = .ok v w
      rcases hown.2 with ⟨rfl, rfl⟩ | ⟨g, cap, cur, rfl, _, _, hnc, _⟩
      · simp [Builtin.append_, run_underlying ht, sizeOf, typeInfo, hi, Builtin.lenOf, Builtin.firstCells]
      · simp [Builtin.append_, run_underlying ht, sizeOf, typeInfo, hi, Builtin.lenOf, Builtin.firstCells, hnc, storeCells]
    | some ad =>
      have hc : ∀ j u, (Lib.byteCells l)[j]? = some u → w.cell? (ad.add j) = some u := by
        intro j u hu
        simp only [Lib.byteCells, List.getElem?_map, Option.map_eq_some_iff] at hu
        obtain ⟨y, hy, rfl⟩ := hu
        obtain ⟨b, off, h1, _, h2⟩ := hr (by have := (List.getElem?_eq_some_iff.1 hy).1; omega)
        obtain rfl : ad = ⟨b, off, none⟩ := by injection h1
        rw [add_plain]
        exact h2 j y hy
      obtain ⟨v', w', h1, h2, h3, _, h4⟩ := run_append_own_at (P := P) (w := w) base t o.type e i (.int .u8 0) 1 1 ht hi hz hsize hby rfl (by decide) v n xs hown ad l.length c (Lib.byteCells l) (by simp [Lib.byteCells_length]) hc (bytes_one l) (by unfold maxLen; omega) (by omega) hbase
      exact ⟨v', w', h1, h2, h3, h4⟩
  obtain ⟨v', w', hrun, h1, h2, h3⟩ := hrun
  unfold Oper.wp
  simp [execOp, ho, resolve, invoke, builtin, hs, hx, hrun, Result.andThen]
  exact h v' w' h1 h2 h3
/-- What is read is read still, for the one row that may be written is another. -/
theorem Rd.grown {w w' : World} {A : Option Addr} {l : List UInt8} {row : Option Nat} (h : Rd w A l) (hg : w.grownBy w' row) (hne : ∀ b, A.map (·.block) = some b → row ≠ some b) : Rd w' A l :=
  h.keep (fun p hp e => World.cell?_of_block (hg.block p.block hp (fun e2 => hne _ e e2.symm))) hg.size
theorem own_later {w w' : World} {base : Nat} {v : Value} {n : Nat} {xs : List Value} (h : w.ownsRow base 5 1 v n xs) (hl : Later w w') : w'.ownsRow base 5 1 v n xs := by
  refine ⟨h.1, ?_⟩
  rcases h.2 with h2 | ⟨g, cap, cur, h3, h4, h5, h6⟩
  · exact .inl h2
  · refine .inr ⟨g, cap, cur, h3, h4, (hl.block g ?_).trans h5, h6⟩
    rcases Nat.lt_or_ge g w.heap.size with hlt | hge
    · exact hlt
    · rw [Array.getElem?_eq_none hge] at h5; cases h5
theorem own_none (w : World) : (w.alloc (.cells #[] 5)).ownsRow w.heap.size 5 1 (.slice (some ⟨w.heap.size, 0, none⟩) 0 0) 0 (Lib.byteCells []) :=
  ⟨rfl, .inr ⟨w.heap.size, 0, #[], rfl, Nat.le_refl _, heap_alloc_new w _, Nat.le_refl _, by unfold maxLen; omega, rfl, rfl⟩⟩
theorem Rd.lt {w : World} {g : Nat} {l : List UInt8} (h : Rd w (some ⟨g, 0, none⟩) l) (hl : 0 < l.length) : g < w.heap.size := by
  obtain ⟨b, off, e, hb, _⟩ := h hl
  simp only [Option.some.injEq, Addr.mk.injEq, and_true] at e
  omega
/-- A row that is made now is none of those that were there. -/
theorem apart_new {w : World} {g n c : Nat} {l : List UInt8} (h : Rd w (some ⟨g, 0, none⟩) l) (hl : 0 < l.length) : (Value.slice (some ⟨w.heap.size, 0, none⟩) n c).ownBlock ≠ some g := by
  have := h.lt hl
  simp only [Value.ownBlock, ne_eq, Option.some.injEq]
  omega
/-- A result's row is none of the rows that were there. -/
theorem apart_res {w : World} {base n g : Nat} {v : Value} {xs : List Value} (h : w.ownsRow base 5 1 v n xs) (hg : w.heap.size ≤ g) : v.ownBlock ≠ some g := by
  rcases h.2 with ⟨rfl, _⟩ | ⟨g', cap, cur, rfl, _, hh, _⟩
  · simp [Value.ownBlock]
  · have hlt : g' < w.heap.size := by
      rcases Nat.lt_or_ge g' w.heap.size with hlt | hge
      · exact hlt
      · rw [Array.getElem?_eq_none hge] at hh; cases hh
    simp only [Value.ownBlock, ne_eq, Option.some.injEq]
    omega
theorem apart_append {w : World} {g : Nat} {v v' : Value} {l : List UInt8} (h : v.ownBlock ≠ some g) (hr : Rd w (some ⟨g, 0, none⟩) l) (hl : 0 < l.length) (hd : v'.ownBlock = v.ownBlock ∨ v'.ownBlock = some w.heap.size) : v'.ownBlock ≠ some g := by
  have := hr.lt hl
  rcases hd with hd | hd
  · rw [hd]; exact h
  · rw [hd]
    simp only [ne_eq, Option.some.injEq]
    omega
theorem rd_of_own {w : World} {base g n c : Nat} {l : List UInt8} (h : w.ownsRow base 5 1 (.slice (some ⟨g, 0, none⟩) n c) n (Lib.byteCells l)) : Rd w (some ⟨g, 0, none⟩) l ∧ l.length = n ∧ n ≤ c := by
  rcases Nat.eq_zero_or_pos n with h0 | h0
  · have hl : l.length = n := by have := h.1; rw [Lib.byteCells_length] at this; omega
    refine ⟨fun hp => absurd hp (by omega), hl, by omega⟩
  · obtain ⟨g', c', e, h1, _, _, h2, h3⟩ := rd_own h h0
    injection e with e1 _ e2
    injection e1 with e1
    injection e1 with e1
    subst e1 e2
    exact ⟨h3, h2, h1⟩
theorem Later.grown {w0 w w' : World} {v : Value} {n : Nat} {xs : List Value} (h : Later w0 w) (hg : w.grownBy w' v.ownBlock) (ho : w.ownsRow w0.heap.size 5 1 v n xs) : Later w0 w' :=
  Below.grown h hg h.size (fun k hk => ho.ownBlock_ge k hk)
theorem Rd.apart {w w' : World} {g : Nat} {l : List UInt8} {row : Option Nat} (h : Rd w (some ⟨g, 0, none⟩) l) (hg : w.grownBy w' row) (hne : row ≠ some g) : Rd w' (some ⟨g, 0, none⟩) l :=
  h.grown hg (fun b hb => by simp only [Option.map_some, Option.some.injEq] at hb; subst hb; exact hne)
end Go.Proofs.YtbdbccdkimkhbaaDoor
