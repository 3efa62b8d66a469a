/-
  OWN WORK. slices.IndexFunc, slices.DeleteFunc over an own row (names).
-/
import Derived.Test.YtpblhdpnmnfieaaBTrInsN
import Derived.RangeFuncBox
namespace Go.Proofs.Ytpblhdpnmnfieaa
open Go.RowKit Rc
open Tr (Nm En T)
namespace Tm

def idxNm (p : Nm → Bool) : List Nm → Nat → Int
  | [], _ => -1
  | x :: l, i => if p x then (i : Int) else idxNm p l (i + 1)
theorem idxNm_split (p : Nm → Bool) : ∀ (l : List Nm) (i : Nat), (idxNm p l i = -1 ∧ ∀ x ∈ l, p x = false) ∨ ∃ j x, j < l.length ∧ idxNm p l i = ((i + j : Nat) : Int) ∧ l[j]? = some x ∧ p x = true ∧ ∀ y ∈ l.take j, p y = false
  | [], i => .inl ⟨rfl, fun x h => by simp at h⟩
  | x :: l, i => by
    unfold idxNm
    cases hx : p x
    · rcases idxNm_split p l (i + 1) with ⟨h1, h2⟩ | ⟨j, y, h1, h2, h3, h4, h5⟩
      · exact .inl ⟨by simpa using h1, fun y hy => by rcases List.mem_cons.1 hy with rfl | hy; exact hx; exact h2 y hy⟩
      · refine .inr ⟨j + 1, y, by simp only [List.length_cons]; omega, by simp only [Bool.false_eq_true, if_false]; rw [h2]; congr 1; omega, by simpa using h3, h4, fun z hz => ?_⟩
        rw [List.take_succ_cons] at hz
        rcases List.mem_cons.1 hz with rfl | hz
        · exact hx
        · exact h5 z hz
    · exact .inr ⟨0, x, by simp, by simp, rfl, hx, fun y hy => by simp at hy⟩
theorem idxNm_step (p : Nm → Bool) (l : List Nm) (j i : Nat) (h : ∀ y ∈ l.take j, p y = false) : idxNm p l i = idxNm p (l.drop j) (i + j) := by
  induction j generalizing l i with
  | zero => simp
  | succ j ih =>
    cases l with
    | nil => simp [idxNm]
    | cons x l =>
      rw [List.take_succ_cons] at h
      rw [List.drop_succ_cons, idxNm, if_neg (by rw [h x (.head _)]; simp), ih l (i + 1) fun y hy => h y (.tail _ hy)]
      congr 1; omega
/-- What the function that is handed in tells. -/
def ToldNm (v : Value) (w : World) (f : FuncId) (cb : Array Value) (p : Nm → Bool) (l : List Nm) : Prop :=
  ∀ W, w.grownBy W v.ownBlock → ∀ x ∈ l, Calls Try.prog f (#[.agg #[.string (strOf x.1), .int .i64 x.2]] ++ cb) W fun e w' => e = .returned (.bool (p x)) ∧ Below W.heap.size W w'
theorem grown_below {w wr w' : World} {row : Option Nat} (h : w.grownBy wr row) (hb : Below wr.heap.size wr w') : w.grownBy w' row :=
  ⟨hb.os.trans h.os, hb.tape.trans h.tape, hb.output.trans h.output, Nat.le_trans h.size hb.size, fun b hlt hne => (hb.block b (Nat.lt_of_lt_of_le hlt h.size)).trans (h.block b hlt hne)⟩
theorem below_grown {w wr : World} (h : Below w.heap.size w wr) (row : Option Nat) : w.grownBy wr row := ⟨h.os, h.tape, h.output, h.size, fun b hlt _ => h.block b hlt⟩

/-- A row half gone through: what stays stands ahead, what is still to come where it was. -/
structure HalfNm (l : List Nm) (p : Nm → Bool) (cap i j : Nat) (cur : List Value) : Prop where
  cnt : ((l.take j).filter fun x => !p x).length = i
  len : cur.length = cap * 2
  done : cur.take (i * 2) = nmCells ((l.take j).filter fun x => !p x)
  rest : (cur.drop (j * 2)).take ((l.length - j) * 2) = nmCells (l.drop j)
theorem HalfNm.le {l : List Nm} {p : Nm → Bool} {cap i j : Nat} {cur : List Value} (h : HalfNm l p cap i j cur) : i ≤ j := by
  rw [← h.cnt]
  exact Nat.le_trans (List.length_filter_le _ _) (by rw [List.length_take]; omega)
theorem take_next {α : Type} {l : List α} {j : Nat} {x : α} (hx : l[j]? = some x) : l.take (j + 1) = l.take j ++ [x] := by
  have hj := (List.getElem?_eq_some_iff.1 hx).1
  rw [List.take_succ_eq_append_getElem hj, (List.getElem?_eq_some_iff.1 hx).2]
theorem HalfNm.out {l : List Nm} {p : Nm → Bool} {cap i j : Nat} {cur : List Value} (h : HalfNm l p cap i j cur) {x : Nm} (hx : l[j]? = some x) (hp : p x = true) : HalfNm l p cap i (j + 1) cur := by
  have e : ((l.take (j + 1)).filter fun x => !p x) = (l.take j).filter fun x => !p x := by
    rw [take_next hx, List.filter_append]; simp [hp]
  refine ⟨by rw [e]; exact h.cnt, h.len, by rw [e]; exact h.done, ?_⟩
  have hr := congrArg (List.drop 2) h.rest
  rw [List.drop_take, List.drop_drop] at hr
  have hd : l.drop j = x :: l.drop (j + 1) := by
    have hj := (List.getElem?_eq_some_iff.1 hx).1
    rw [List.drop_eq_getElem_cons hj, (List.getElem?_eq_some_iff.1 hx).2]
  rw [hd] at hr
  rw [show (j + 1) * 2 = j * 2 + 2 by omega, show (l.length - (j + 1)) * 2 = (l.length - j) * 2 - 2 by omega]
  exact hr
theorem HalfNm.keep {l : List Nm} {p : Nm → Bool} {cap i j : Nat} {cur : List Value} (h : HalfNm l p cap i j cur) (hc : l.length ≤ cap) {x : Nm} (hx : l[j]? = some x) (hp : p x = false) : HalfNm l p cap (i + 1) (j + 1) ((cur.set (i * 2) (.string (strOf x.1))).set (i * 2 + 1) (.int .i64 x.2)) := by
  have hj := (List.getElem?_eq_some_iff.1 hx).1
  have hij := h.le
  have e : ((l.take (j + 1)).filter fun x => !p x) = ((l.take j).filter fun x => !p x) ++ [x] := by
    rw [take_next hx, List.filter_append]; simp [hp]
  have hd : l.drop j = x :: l.drop (j + 1) := by
    rw [List.drop_eq_getElem_cons hj, (List.getElem?_eq_some_iff.1 hx).2]
  refine ⟨by rw [e, List.length_append, h.cnt]; rfl, by simp [h.len], ?_, ?_⟩
  · rw [e, nmCells_append, ← h.done]
    rw [show (i + 1) * 2 = i * 2 + 1 + 1 by omega]
    have hlt : i * 2 + 1 < ((cur.set (i * 2) (.string (strOf x.1))).set (i * 2 + 1) (.int .i64 x.2)).length := by simp [h.len]; omega
    rw [List.take_succ_eq_append_getElem hlt, List.take_succ_eq_append_getElem (by omega), List.take_set_of_le (by omega), List.take_set_of_le (Nat.le_refl _)]
    simp [List.getElem_set, nmCells]
  · have hr := congrArg (List.drop 2) h.rest
    rw [List.drop_take, List.drop_drop, hd] at hr
    rw [show (l.length - (j + 1)) * 2 = (l.length - j) * 2 - 2 by omega]
    have e2 : ((cur.set (i * 2) (.string (strOf x.1))).set (i * 2 + 1) (.int .i64 x.2)).drop ((j + 1) * 2) = cur.drop ((j + 1) * 2) := by
      rw [List.drop_set_of_lt (by omega), List.drop_set_of_lt (by omega)]
    rw [e2, show (j + 1) * 2 = j * 2 + 2 by omega]
    exact hr
theorem HalfNm.cell {l : List Nm} {p : Nm → Bool} {cap i j : Nat} {cur : List Value} (h : HalfNm l p cap i j cur) {x : Nm} (hx : l[j]? = some x) : cur[j * 2]? = some (.string (strOf x.1)) ∧ cur[j * 2 + 1]? = some (.int .i64 x.2) := by
  have hj := (List.getElem?_eq_some_iff.1 hx).1
  have hd : l.drop j = x :: l.drop (j + 1) := by
    rw [List.drop_eq_getElem_cons hj, (List.getElem?_eq_some_iff.1 hx).2]
  have key : ∀ m, m < 2 → cur[j * 2 + m]? = (nmCells (x :: l.drop (j + 1)))[m]? := fun m hm => by
    rw [← hd, ← h.rest, List.getElem?_take_of_lt (by omega), List.getElem?_drop]
  exact ⟨key 0 (by omega), key 1 (by omega)⟩
def DelNm (v : Value) (l : List Nm) (p : Nm → Bool) (w : World) (e : Ending) (w' : World) : Prop :=
  ∃ v', e = .returned v' ∧ w'.ownsRow 0 80 2 v' (l.filter fun x => !p x).length (nmCells (l.filter fun x => !p x)) ∧ w.grownBy w' v.ownBlock ∧ (v'.ownBlock = v.ownBlock)
theorem zeroNm (w : World) : (zeroValue 80).run Try.prog w = .ok (.agg #[.string .empty, .int .i64 0]) w := by kernel_rfl

end Tm
end Go.Proofs.Ytpblhdpnmnfieaa
