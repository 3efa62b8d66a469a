/-
  OWN WORK. The program's disk in memory: its sectors behind each other in one block; plain mathematics of it.
-/
import Derived.Test.YtenedgapjbmpgaaDiSaid
import Derived.Test.YtenedgapjbmpgaaBaClone
import Derived.Deep.MidRow
namespace Go.Proofs.Ytenedgapjbmpgaa
open Go.RowKit Rc Di

/-- A sector: its bytes as they are, as they were safe. -/
structure Sec where
  now : List UInt8
  safe : List UInt8
  dirty : Bool
structure Sec.Ok (s : Sec) : Prop where
  now : s.now.length = 128
  safe : s.safe.length = 128
  same : s.dirty = false → s.now = s.safe
def Sec.cells (s : Sec) : List Value := Lib.byteCells s.now ++ (Lib.byteCells s.safe ++ [.bool s.dirty])
def Sec.settle (s : Sec) (n : Nat) : Sec := ⟨s.now.take n ++ s.safe.drop n, s.now.take n ++ s.safe.drop n, false⟩
theorem Sec.Ok.settle {s : Sec} (h : s.Ok) {n : Nat} (hn : n ≤ 128) : (s.settle n).Ok := by
  have e : (s.now.take n ++ s.safe.drop n).length = 128 := by
    have h1 := h.now
    have h2 := h.safe
    rw [List.length_append, List.length_take, List.length_drop]; omega
  exact ⟨e, e, fun _ => rfl⟩
def secs (L : List Sec) : List Value := (L.map Sec.cells).flatten
theorem Sec.Ok.cells {s : Sec} (h : s.Ok) : s.cells.length = 257 := by
  unfold Sec.cells
  rw [List.length_append, List.length_append, Lib.byteCells_length, Lib.byteCells_length, h.now, h.safe]
  rfl
theorem secs_length : ∀ {L : List Sec}, (∀ s ∈ L, s.Ok) → (secs L).length = L.length * 257
  | [], _ => rfl
  | s :: L, h => by
    have h1 := secs_length (L := L) fun x hx => h x (.tail _ hx)
    have h2 := (h s (.head _)).cells
    show (s.cells ++ secs L).length = _
    rw [List.length_append, h1, h2, List.length_cons]; omega
theorem secs_app (L M : List Sec) : secs (L ++ M) = secs L ++ secs M := by simp [secs]
theorem secs_cons (s : Sec) (L : List Sec) : secs (s :: L) = s.cells ++ secs L := rfl
/-- The one at i, and what is before and behind. -/
theorem split_at {α : Type} (L : List α) (i : Nat) (h : i < L.length) : L = L.take i ++ L[i] :: L.drop (i + 1) := by simp
theorem set_at {α : Type} (L : List α) (i : Nat) (h : i < L.length) (x : α) : L.set i x = L.take i ++ x :: L.drop (i + 1) := by
  rw [List.set_eq_take_append_cons_drop, if_pos h]
theorem secs_split (L : List Sec) (i : Nat) (h : i < L.length) : secs L = secs (L.take i) ++ (L[i].cells ++ secs (L.drop (i + 1))) := by
  rw [← secs_cons, ← secs_app, ← split_at L i h]
theorem secs_set (L : List Sec) (i : Nat) (h : i < L.length) (s : Sec) : secs (L.set i s) = secs (L.take i) ++ (s.cells ++ secs (L.drop (i + 1))) := by
  rw [← secs_cons, ← secs_app, ← set_at L i h]
theorem secs_take {L : List Sec} (hok : ∀ s ∈ L, s.Ok) (i : Nat) (h : i ≤ L.length) : (secs (L.take i)).length = i * 257 := by
  rw [secs_length fun s hs => hok s (List.mem_of_mem_take hs), List.length_take]
  congr 1; omega
/-- A cell of the sector at i. -/
theorem secs_at {L : List Sec} (hok : ∀ s ∈ L, s.Ok) (i j : Nat) (h : i < L.length) (hj : j < 257) : (secs L)[i * 257 + j]? = L[i].cells[j]? := by
  have hl := (hok _ (List.getElem_mem h)).cells
  rw [secs_split L i h, List.getElem?_append_right (by rw [secs_take hok i (by omega)]; omega), secs_take hok i (by omega), Nat.add_sub_cancel_left, List.getElem?_append_left (by omega)]
theorem Sec.Ok.cell_now {s : Sec} (h : s.Ok) (j : Nat) (hj : j < 128) : s.cells[j]? = (s.now[j]?).map fun x => .int .u8 x.toNat := by
  unfold Sec.cells
  rw [List.getElem?_append_left (by rw [Lib.byteCells_length, h.now]; exact hj)]
  simp [Lib.byteCells]
theorem Sec.Ok.cell_safe {s : Sec} (h : s.Ok) (j : Nat) (hj : j < 128) : s.cells[128 + j]? = (s.safe[j]?).map fun x => .int .u8 x.toNat := by
  unfold Sec.cells
  rw [List.getElem?_append_right (by rw [Lib.byteCells_length, h.now]; omega), Lib.byteCells_length, h.now, Nat.add_sub_cancel_left, List.getElem?_append_left (by rw [Lib.byteCells_length, h.safe]; exact hj)]
  simp [Lib.byteCells]
theorem Sec.Ok.cell_dirty {s : Sec} (h : s.Ok) : s.cells[256]? = some (.bool s.dirty) := by
  unfold Sec.cells
  rw [List.getElem?_append_right (by rw [Lib.byteCells_length, h.now]; omega), Lib.byteCells_length, h.now, List.getElem?_append_right (by rw [Lib.byteCells_length, h.safe]; omega), Lib.byteCells_length, h.safe]
  rfl
/-! What is written into a sector. -/
theorem splice_mid (P c Q cs : List Value) (o j : Nat) (ho : P.length = o) (h : j + cs.length ≤ c.length) : splice (P ++ (c ++ Q)) (o + j) cs = P ++ (splice c j cs ++ Q) := by
  subst ho
  unfold splice
  rw [List.take_length_add_append, Nat.add_assoc, List.drop_length_add_append, List.take_append_of_le_length (by omega), List.drop_append_of_le_length (by omega)]
  simp
theorem bytes_take (l : List UInt8) (n : Nat) : Lib.byteCells (l.take n) = (Lib.byteCells l).take n := by simp [Lib.byteCells, List.map_take]
theorem bytes_drop (l : List UInt8) (n : Nat) : Lib.byteCells (l.drop n) = (Lib.byteCells l).drop n := by simp [Lib.byteCells, List.map_drop]
theorem bytes_app (l m : List UInt8) : Lib.byteCells (l ++ m) = Lib.byteCells l ++ Lib.byteCells m := by simp [Lib.byteCells]
theorem splice_safe (a b : List UInt8) (d : Bool) (x : List UInt8) (ha : a.length = 128) (hb : b.length = 128) (hx : x.length ≤ 128) :
    splice (⟨a, b, d⟩ : Sec).cells 128 (Lib.byteCells x) = (⟨a, x ++ b.drop x.length, d⟩ : Sec).cells := by
  have la : (Lib.byteCells a).length = 128 := by rw [Lib.byteCells_length, ha]
  have lb : (Lib.byteCells b).length = 128 := by rw [Lib.byteCells_length, hb]
  have lx : (Lib.byteCells x).length = x.length := Lib.byteCells_length x
  unfold splice Sec.cells
  simp only
  rw [List.take_append_of_le_length (by omega), List.take_of_length_le (by omega), lx]
  rw [show 128 + x.length = (Lib.byteCells a).length + x.length by omega, List.drop_length_add_append, List.drop_append_of_le_length (by omega), bytes_app, bytes_drop]
  simp
theorem splice_now (a b : List UInt8) (d : Bool) (x : List UInt8) (ha : a.length = 128) (hx : x.length = 128) :
    splice (⟨a, b, d⟩ : Sec).cells 0 (Lib.byteCells x) = (⟨x, b, d⟩ : Sec).cells := by
  have la : (Lib.byteCells a).length = 128 := by rw [Lib.byteCells_length, ha]
  have lx : (Lib.byteCells x).length = 128 := by rw [Lib.byteCells_length, hx]
  unfold splice Sec.cells
  simp only
  rw [List.take_zero, List.nil_append, lx, Nat.zero_add, ← la, List.drop_left]
theorem set_dirty (a b : List UInt8) (d e : Bool) (ha : a.length = 128) (hb : b.length = 128) : (⟨a, b, d⟩ : Sec).cells.set 256 (.bool e) = (⟨a, b, e⟩ : Sec).cells := by
  have la : (Lib.byteCells a).length = 128 := by rw [Lib.byteCells_length, ha]
  have lb : (Lib.byteCells b).length = 128 := by rw [Lib.byteCells_length, hb]
  unfold Sec.cells
  simp only
  rw [List.set_append_right _ _ (by omega), la, List.set_append_right _ _ (by omega), lb]
  rfl
theorem set_mid (P c Q : List Value) (o j : Nat) (v : Value) (ho : P.length = o) (h : j < c.length) : (P ++ (c ++ Q)).set (o + j) v = P ++ (c.set j v ++ Q) := by
  subst ho
  rw [List.set_append_right _ _ (by omega), Nat.add_sub_cancel_left, List.set_append_left _ _ h]
/-! In memory. -/
theorem Blk.setCells_ {g : Nat} {t : TypeId} : ∀ (vs : List Value) (o : Nat) {cur : List Value} {w : World}, Blk w g t cur → o + vs.length ≤ cur.length → Blk (w.setCells g o vs) g t (splice cur o vs)
  | [], o, cur, w, h, _ => by
    have e : splice cur o [] = cur := by simp [splice]
    rw [e]; exact h
  | v :: vs, o, cur, w, h, hl => by
    rw [World.setCells]
    have h1 := Blk.setCells_ vs (o + 1) (h.set_ o v) (by rw [List.length_set]; simp only [List.length_cons] at hl; omega)
    have e : splice (cur.set o v) (o + 1) vs = splice cur o (v :: vs) := by
      simp only [List.length_cons] at hl
      unfold splice
      have e1 : (cur.set o v).take (o + 1) = cur.take o ++ [v] := by
        rw [set_at cur o (by omega) v, List.take_append, List.length_take, Nat.min_eq_left (by omega), List.take_of_length_le (by rw [List.length_take]; omega), Nat.add_sub_cancel_left]
        rfl
      have e2 : (cur.set o v).drop (o + 1 + vs.length) = cur.drop (o + (vs.length + 1)) := by
        rw [List.drop_set_of_lt (by omega)]; congr 1; omega
      rw [e1, e2]
      simp
    rw [e] at h1
    exact h1
theorem Keeps.setCells {a b : World} {g : Nat} (h : Keeps a b g) : ∀ (vs : List Value) (o : Nat), Keeps a (b.setCells g o vs) g := by
  intro vs
  induction vs generalizing b with
  | nil => intro o; exact h
  | cons v vs ih => intro o; rw [World.setCells]; exact ih (h.setCell o v) (o + 1)
theorem Blk.range {w : World} {g : Nat} {t : TypeId} {cs : List Value} (h : Blk w g t cs) (o : Nat) (xs : List Value) (hx : ∀ j v, xs[j]? = some v → cs[o + j]? = some v) : w.rangeAt g o xs := fun j v hv => by
  rw [h.cell]; exact hx j v hv
theorem Blk.there {w : World} {g : Nat} {t : TypeId} {cs : List Value} (h : Blk w g t cs) (o n : Nat) (hn : o + n ≤ cs.length) : w.there g o n := fun j hj => by
  refine ⟨?_, h.frozen _⟩
  rw [h.cell, List.getElem?_eq_getElem (by omega)]; rfl
end Go.Proofs.Ytenedgapjbmpgaa
