/-
  OWN WORK. A block of cells as an object: its cells are loaded and stored in regions that draw.
-/
import Derived.Test.YtopcipaaffpiaaaBaTurn
namespace Go.Proofs.Ytopcipaaffpiaaa
open Go.RowKit Rc
namespace Ob
def onlyB (g : Nat) : Nat → Prop := fun b => b = g
def blk (T : TypeId) : Obj (List Value) where
  At v s S w := ∃ g, v = .pointer (some ⟨g, 0, none⟩) ∧ Blk w g T s ∧ S = onlyB g
  keep h _ hb := by
    obtain ⟨g, h1, h2, rfl⟩ := h
    exact ⟨g, h1, (hb g rfl).trans h2, rfl⟩
  lt h b hb := by
    obtain ⟨g, h1, h2, rfl⟩ := h
    have e : b = g := hb
    subst e
    exact h2.lt
  ptr h := by obtain ⟨g, h1, _⟩ := h; exact ⟨_, h1⟩
theorem blk_at {T : TypeId} {g : Nat} {s : List Value} {S : Nat → Prop} {w : World} (h : (blk T).At (.pointer (some ⟨g, 0, none⟩)) s S w) : Blk w g T s ∧ S = onlyB g := by
  obtain ⟨g', h1, h2, h3⟩ := h
  injection h1 with h1
  injection h1 with h1
  injection h1 with h1
  subst h1
  exact ⟨h2, h3⟩
theorem blk_one {T : TypeId} {g : Nat} {s : List Value} {w0 w : World} (h : Blk w g T s) (hb : Below w0.heap.size w0 w) (hg : w0.heap.size ≤ g) : One (blk T) (.pointer (some ⟨g, 0, none⟩)) w0 w0 (fun _ => False) s (onlyB g) w :=
  ⟨⟨g, rfl, h, rfl⟩, Mod.of_below hb _, fun b hb2 => .inr (by have e : b = g := hb2; omega), hb, fun b hb2 => by have e : b = g := hb2; omega⟩
section
variable {F : Nat → Rc.Fact} {cons : List (Nat × Nat)} {E : Nat → (Nat → Value) → Value → Prop} {V : Nat → Value} {S : Nat → Nat → Prop} {j : Nat} {o : Oper} {b : Act} {w w0 : World} {B : Nat → Prop}
/-- A cell is stored. -/
theorem step_poke {T : TypeId} {g k : Nat} {s : List Value} {i : Nat} (u : Value) (hF : F j = turned (blk T) (.pointer (some ⟨g, 0, none⟩)) (Ups B w0) undef (s.set k u)) (hi : (j, i) ∈ cons) (hu : ∃ S1, (blk T).At (.pointer (some ⟨g, 0, none⟩)) s S1 w ∧ (∀ b, S1 b → S i b) ∧ ∀ b, S1 b → Ups B w0 b)
    (hE : ∀ v, E j V v) (hg : Rg.Open o V) (h : (execOp b.eval o).run Try.prog w = .ok .skip (w.setCell ⟨g, k, none⟩ u)) : Rg.Does1 Try.prog o V b w (Rc.Good F cons E V S j w) := by
  obtain ⟨S1, hat, hsub, hup⟩ := hu
  obtain ⟨hb, rfl⟩ := blk_at hat
  refine .of hg fun K hK => ?_
  unfold Oper.wp
  rw [h]
  refine hK undef (w.setCell ⟨g, k, none⟩ u) ⟨onlyB g, ⟨rfl, rfl, rfl, by simp [World.setCell], fun x hx hn => Below.heap_setCell _ _ _ _ (fun e => hn ⟨i, hi, hsub x e⟩)⟩, ?_, fun x hx => ⟨.inl ⟨i, hi, hsub x hx⟩, ?_⟩, hE _⟩
  · rw [hF]
    exact ⟨rfl, onlyB g, ⟨g, rfl, hb.set_ k u, rfl⟩, fun _ h => h, hup⟩
  · have e : x = g := hx
    subst e
    have := hb.lt
    simpa [World.setCell] using this
end
end Ob
end Go.Proofs.Ytopcipaaffpiaaa
