/-
  OWN WORK. Regions that draw and only make memory: a text's bytes; rows of texts.
-/
import Derived.Test.YtombmeppdhhjhaaGreatQ02
import Derived.Test.YtombmeppdhhjhaaGreatQTsSave
import Derived.Test.YtombmeppdhhjhaaGreatQ13
namespace Go.Proofs.YtombmeppdhhjhaaGreat
open Go.RowKit Rc
namespace Ag
def srow (l : List Bs) : Rc.Fact := ⟨fun x w S => Tm.SOwn w x l ∧ ∀ b, x.ownBlock = some b → S b, fun _ _ _ _ h _ hb => ⟨h.1.keep fun b hb2 => hb b (h.2 b hb2), h.2⟩⟩
theorem run_append_txts_at (w : World) (v : Value) (n : Nat) (xs : List Value) (hown : w.ownsRow 0 9 1 v n xs) (A : Option Addr) (l : List Bs) (c : Nat) (hr : RdS w A l) (hn : n + l.length ≤ 68719476736) (ty : TypeId) :
    ∃ v' w', (Builtin.append_ #[26, 26] ty #[v, .slice A l.length c]).run Tryz.prog w = .ok v' w' ∧ w'.ownsRow 0 9 1 v' (n + l.length) (xs ++ txtCells l) ∧ w.grownBy w' v.ownBlock ∧ (v'.ownBlock = v.ownBlock ∨ v'.ownBlock = some w.heap.size) := by
  obtain ⟨i, hi, hz, hsize, hby⟩ := info_parts Tryz.infoStr
  cases A with
  | none =>
    have hl : l = [] := by
      rcases Nat.eq_zero_or_pos l.length with h | h
      · exact List.eq_nil_of_length_eq_zero h
      · obtain ⟨b, off, h1, _⟩ := hr h
        cases h1
    subst hl
    refine ⟨v, w, ?_, by simpa [txtCells] using hown, ⟨rfl, rfl, rfl, Nat.le_refl _, fun _ _ _ => rfl⟩, .inl rfl⟩
    show (Builtin.append_ #[26, 26] ty #[v, .slice none 0 c]).run Tryz.prog w = .ok v w
    have ht := Tryz.underlying26
    rcases hown.2 with ⟨rfl, rfl⟩ | ⟨g, cap, cur, rfl, _, _, hnc, _⟩
    · simp [Builtin.append_, run_underlying ht, sizeOf, typeInfo, hi, Builtin.lenOf, Builtin.firstCells]
    · simp [Builtin.append_, run_underlying ht, sizeOf, typeInfo, hi, Builtin.lenOf, Builtin.firstCells, hnc, storeCells]
  | some ad =>
    have hc : ∀ j u, (txtCells l)[j]? = some u → w.cell? (ad.add j) = some u := by
      intro j u hu
      simp only [txtCells, List.getElem?_map, Option.map_eq_some_iff] at hu
      obtain ⟨x, hx, rfl⟩ := hu
      obtain ⟨b, off, h1, _, h2⟩ := hr (by have := (List.getElem?_eq_some_iff.1 hx).1; omega)
      obtain rfl : ad = ⟨b, off, none⟩ := by injection h1
      rw [add_plain]
      exact h2 j x hx
    obtain ⟨v', w', h1, h2, h3, _, h5⟩ := run_append_own_at (P := Tryz.prog) w 0 26 ty 9 i (.string .empty) 1 16 Tryz.underlying26 hi hz hsize hby rfl (by decide) v n xs hown ad l.length c (txtCells l) (by simp [txtCells_length]) hc (txt_one l) (by unfold maxLen; omega) (by omega) (Nat.zero_le _)
    exact ⟨v', w', h1, h2, h3, h5⟩
section
variable {F : Nat → Rc.Fact} {cons : List (Nat × Nat)} {E : Nat → (Nat → Value) → Value → Prop} {V : Nat → Value} {S : Nat → Nat → Prop} {j : Nat} {o : Oper} {b : Act} {w : World}
theorem step_snil (hop : o.op = .buildSlice 26 0 #[]) (hF : F j = srow []) (hE : ∀ v, E j V v) (hg : Rg.Open o V) : Rg.Does1 Tryz.prog o V b w (Rc.Good F cons E V S j w) := by
  refine Rc.step_new (.slice (some ⟨w.heap.size, 0, none⟩) 0 0) (w.alloc (.cells #[] 9)) (fun k => k = w.heap.size) (hE _) hg ?_ (below_new _ _) ?_ (fun k hk => ⟨by omega, by rw [World.size_alloc]; omega⟩)
  · obtain ⟨dst, op, ty, pos, after, guard⟩ := o
    simp only at hop
    subst hop
    go_simp
  · rw [hF]
    refine ⟨⟨rfl, .inr ⟨w.heap.size, 0, #[], rfl, Nat.zero_le _, heap_alloc_new w _, Nat.zero_le _, by decide, rfl, rfl⟩⟩, fun b hb => ?_⟩
    have : w.heap.size = b := by simpa [Value.ownBlock] using hb
    exact this.symm
theorem step_sone (x : Bs) {y : Operand} (hop : o.op = .buildSlice 26 1 #[(0, y)]) (hy : b.eval y = .string (strOf x)) (hF : F j = srow [x]) (hE : ∀ v, E j V v) (hg : Rg.Open o V) : Rg.Does1 Tryz.prog o V b w (Rc.Good F cons E V S j w) := by
  refine Rc.step_new (.slice (some ⟨w.heap.size, 0, none⟩) 1 1) (w.alloc (.cells #[.string (strOf x)] 9)) (fun k => k = w.heap.size) (hE _) hg ?_ (below_new _ _) ?_ (fun k hk => ⟨by omega, by rw [World.size_alloc]; omega⟩)
  · obtain ⟨dst, op, ty, pos, after, guard⟩ := o
    simp only at hop
    subst hop
    simp only [execOp, List.map_toArray, List.map_cons, List.map_nil, hy]
    go_simp
  · rw [hF]
    refine ⟨⟨rfl, .inr ⟨w.heap.size, 1, #[.string (strOf x)], rfl, Nat.zero_le _, heap_alloc_new w _, Nat.le_refl _, by decide, rfl, rfl⟩⟩, fun b hb => ?_⟩
    have : w.heap.size = b := by simpa [Value.ownBlock] using hb
    exact this.symm
theorem step_sapp {i : Nat} (l y L : List Bs) (hL : L = l ++ y) {s x : Operand} {A : Option Addr} {c : Nat} (hop : o.op = .call { callee := .builtin .append, args := #[s, x], argTypes := #[26, 26] }) (hs : b.eval s = V i) (hx : b.eval x = .slice A y.length c) (hF : F j = srow L) (hi : (j, i) ∈ cons)
    (hV : (srow l).holds (V i) w (S i)) (hr : RdS w A y) (_hlt : ∀ k, S i k → k < w.heap.size) (hn : l.length + y.length ≤ 68719476736) (hE : ∀ v, E j V v) (hg : Rg.Open o V) : Rg.Does1 Tryz.prog o V b w (Rc.Good F cons E V S j w) := by
  subst hL
  refine .of hg fun K hK => ?_
  obtain ⟨v', w', h1, h2, h3, h5⟩ := run_append_txts_at w (V i) l.length (txtCells l) hV.1 A y c hr hn o.type
  have hown : Tm.SOwn w' v' (l ++ y) := by
    unfold Tm.SOwn
    rw [List.length_append, txtCells_append]
    exact h2
  unfold Oper.wp
  simp [execOp, hop, resolve, invoke, builtin, hs, hx, h1, Result.andThen]
  refine hK v' w' ⟨fun k => v'.ownBlock = some k, ⟨h3.os, h3.tape, h3.output, h3.size, fun m hm hn2 => h3.block m hm fun e => hn2 ⟨i, hi, hV.2 m e.symm⟩⟩, by rw [hF]; exact ⟨hown, fun _ h => h⟩, fun k hk => ⟨?_, hown.lt hk⟩, hE _⟩
  rcases h5 with e | e
  · exact .inl ⟨i, hi, hV.2 k (e ▸ hk)⟩
  · rw [e] at hk; injection hk with hk; exact .inr (by omega)
end
end Ag
end Go.Proofs.YtombmeppdhhjhaaGreat
