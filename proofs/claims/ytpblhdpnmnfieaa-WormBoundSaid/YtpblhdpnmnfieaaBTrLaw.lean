/-
  OWN WORK. Trees: plain mathematics: what is found behind a change; names in their order.
-/
import Derived.Test.YtpblhdpnmnfieaaBTrPure
namespace Go.Proofs.Ytpblhdpnmnfieaa
open Go.RowKit
namespace Tr
/-! Names of one directory. -/
theorem get_nil (x : Bs) : get [] x = none := rfl
theorem get_cons (n : Nm) (l : List Nm) (x : Bs) : get (n :: l) x = if n.1 = x then some n.2 else get l x := by
  unfold get
  rw [List.find?_cons]
  by_cases h : n.1 = x
  · rw [if_pos h, beq_iff_eq.2 h]; rfl
  · rw [if_neg h, beq_eq_false_iff_ne.2 h]
theorem get_mem {l : List Nm} {x : Bs} {k : Int} (h : get l x = some k) : (x, k) ∈ l := by
  induction l with
  | nil => cases h
  | cons n l ih =>
    rw [get_cons] at h
    by_cases h1 : n.1 = x
    · rw [if_pos h1] at h
      obtain ⟨a, b⟩ := n
      simp only [Option.some.injEq] at h h1
      subst h h1
      exact .head _
    · rw [if_neg h1] at h
      exact .tail _ (ih h)
def Rise (l : List Nm) : Prop := l.Pairwise fun a b => less a.1 b.1 = true
theorem get_of_mem {l : List Nm} (hr : Rise l) {n : Nm} (h : n ∈ l) : get l n.1 = some n.2 := by
  induction l with
  | nil => cases h
  | cons m l ih =>
    rw [get_cons]
    rcases List.mem_cons.1 h with rfl | h1
    · rw [if_pos rfl]
    · have := (List.pairwise_cons.1 hr).1 n h1
      rw [if_neg (less_ne this), ih (List.pairwise_cons.1 hr).2 h1]
theorem get_none {l : List Nm} {x : Bs} : get l x = none ↔ ∀ n ∈ l, n.1 ≠ x := by
  induction l with
  | nil => simp [get_nil]
  | cons m l ih =>
    rw [get_cons]
    by_cases h : m.1 = x
    · simp [h]
    · rw [if_neg h, ih]; simp [h]
theorem ins_perm (l : List Nm) (x : Bs) (k : Int) : (ins l x k).Perm ((x, k) :: l) := by
  induction l with
  | nil => exact .refl _
  | cons n l ih =>
    unfold ins
    split
    · exact (ih.cons n).trans (.swap _ _ _)
    · exact .refl _
theorem ins_mem {l : List Nm} {x : Bs} {k : Int} {n : Nm} : n ∈ ins l x k ↔ n = (x, k) ∨ n ∈ l := by
  rw [(ins_perm l x k).mem_iff, List.mem_cons]
theorem ins_rise {l : List Nm} (hr : Rise l) {x : Bs} (k : Int) (h : get l x = none) : Rise (ins l x k) := by
  induction l with
  | nil => exact List.pairwise_singleton _ _
  | cons n l ih =>
    have hr2 := List.pairwise_cons.1 hr
    have hn := get_none.1 h
    unfold ins
    split
    · rename_i h1
      refine List.pairwise_cons.2 ⟨fun m hm => ?_, ih hr2.2 (get_none.2 fun m hm => hn m (.tail _ hm))⟩
      rcases ins_mem.1 hm with rfl | hm
      · exact h1
      · exact hr2.1 m hm
    · rename_i h1
      have h2 : less x n.1 = true := by
        cases h3 : less x n.1
        · exact absurd (less_tri (by simpa using h1) h3) (hn n (.head _))
        · rfl
      refine List.pairwise_cons.2 ⟨fun m hm => ?_, hr⟩
      rcases List.mem_cons.1 hm with rfl | hm
      · exact h2
      · exact less_trans h2 (hr2.1 m hm)
theorem get_ins {l : List Nm} (hr : Rise l) {x : Bs} (k : Int) (h : get l x = none) (y : Bs) : get (ins l x k) y = if y = x then some k else get l y := by
  have hi := ins_rise hr k h
  by_cases hy : y = x
  · rw [if_pos hy, hy]
    exact get_of_mem hi (n := (x, k)) (ins_mem.2 (.inl rfl))
  · rw [if_neg hy]
    cases hg : get l y with
    | none =>
      refine get_none.2 fun n hn => ?_
      rcases ins_mem.1 hn with rfl | hn
      · exact fun e => hy e.symm
      · exact get_none.1 hg n hn
    | some j => exact get_of_mem hi (n := (y, j)) (ins_mem.2 (.inr (get_mem hg)))
theorem del_rise {l : List Nm} (hr : Rise l) (x : Bs) : Rise (del l x) := hr.filter _
theorem strike_rise {l : List Nm} (hr : Rise l) (k : Int) : Rise (strike l k) := hr.filter _
theorem get_del {l : List Nm} (x y : Bs) : get (del l x) y = if y = x then none else get l y := by
  induction l with
  | nil => simp [del, get_nil]
  | cons n l ih =>
    unfold del at ih ⊢
    rw [List.filter_cons]
    by_cases h : n.1 = x
    · rw [if_neg (by simp [h]), ih, get_cons]
      by_cases hy : y = x
      · rw [if_pos hy, if_pos hy]
      · rw [if_neg hy, if_neg hy, if_neg (by rw [h]; exact fun e => hy e.symm)]
    · rw [if_pos (by simp [h]), get_cons, ih, get_cons]
      by_cases hy : y = x
      · subst hy; rw [if_neg h, if_pos rfl, if_pos rfl]
      · rw [if_neg hy, if_neg hy]
theorem del_none {l : List Nm} {x : Bs} (h : get l x = none) : del l x = l := by
  unfold del
  rw [List.filter_eq_self]
  intro n hn
  simpa using get_none.1 h n hn
theorem del_perm {l : List Nm} (hr : Rise l) {x : Bs} {k : Int} (h : get l x = some k) : l.Perm ((x, k) :: del l x) := by
  induction l with
  | nil => cases h
  | cons n l ih =>
    have hr2 := List.pairwise_cons.1 hr
    rw [get_cons] at h
    by_cases h1 : n.1 = x
    · rw [if_pos h1] at h
      obtain ⟨a, b⟩ := n
      simp only [Option.some.injEq] at h h1
      subst h h1
      have e : del ((a, b) :: l) a = l := by
        unfold del
        rw [List.filter_cons, if_neg (by simp), List.filter_eq_self]
        intro m hm
        have := less_ne (hr2.1 m hm)
        simpa using fun e => this e.symm
      rw [e]
    · rw [if_neg h1] at h
      have e : del (n :: l) x = n :: del l x := by
        unfold del
        rw [List.filter_cons, if_pos (by simp [h1])]
      rw [e]
      exact ((ih hr2.2 h).cons n).trans (.swap _ _ _)
theorem rise_ext {l m : List Nm} (hl : Rise l) (hm : Rise m) (h : ∀ n, n ∈ l ↔ n ∈ m) : l = m := by
  induction l generalizing m with
  | nil =>
    cases m with
    | nil => rfl
    | cons y m => exact absurd ((h y).2 (.head _)) (by simp)
  | cons x l ih =>
    cases m with
    | nil => exact absurd ((h x).1 (.head _)) (by simp)
    | cons y m =>
      have a := List.pairwise_cons.1 hl
      have b := List.pairwise_cons.1 hm
      have e : x = y := by
        rcases List.mem_cons.1 ((h x).1 (.head _)) with h1 | h1
        · exact h1
        · rcases List.mem_cons.1 ((h y).2 (.head _)) with h2 | h2
          · exact h2.symm
          · have h3 := less_asym (b.1 x h1)
            rw [a.1 y h2] at h3
            cases h3
      subst e
      congr 1
      refine ih a.2 b.2 fun n => ⟨fun hn => ?_, fun hn => ?_⟩
      · rcases List.mem_cons.1 ((h n).1 (.tail _ hn)) with rfl | h1
        · have := a.1 _ hn; rw [less_self] at this; cases this
        · exact h1
      · rcases List.mem_cons.1 ((h n).2 (.tail _ hn)) with rfl | h1
        · have := b.1 _ hn; rw [less_self] at this; cases this
        · exact h1
theorem ins_del {l : List Nm} (hr : Rise l) {x : Bs} {k : Int} (h : get l x = some k) : ins (del l x) x k = l := by
  have hg : get (del l x) x = none := by rw [get_del, if_pos rfl]
  refine rise_ext (ins_rise (del_rise hr x) k hg) hr fun n => ?_
  rw [ins_mem, (del_perm hr h).mem_iff, List.mem_cons]
theorem del_ins {l : List Nm} (hr : Rise l) {x : Bs} (k : Int) (h : get l x = none) : del (ins l x k) x = l := by
  refine rise_ext (del_rise (ins_rise hr k h) x) hr fun n => ?_
  unfold del
  rw [List.mem_filter, ins_mem]
  constructor
  · rintro ⟨rfl | h1, h2⟩
    · simp at h2
    · exact h1
  · intro h1
    exact ⟨.inr h1, by simpa using get_none.1 h n h1⟩
theorem del_comm (l : List Nm) (x y : Bs) : del (del l x) y = del (del l y) x := by
  unfold del
  rw [List.filter_filter, List.filter_filter]
  congr 1
  funext n
  exact Bool.and_comm _ _
theorem ins_comm {l : List Nm} (hr : Rise l) {x y : Bs} (j k : Int) (hx : get l x = none) (hy : get l y = none) (hne : x ≠ y) : ins (ins l x j) y k = ins (ins l y k) x j := by
  have h1 : get (ins l x j) y = none := by rw [get_ins hr j hx, if_neg (fun e => hne e.symm), hy]
  have h2 : get (ins l y k) x = none := by rw [get_ins hr k hy, if_neg hne, hx]
  refine rise_ext (ins_rise (ins_rise hr j hx) k h1) (ins_rise (ins_rise hr k hy) j h2) fun n => ?_
  simp only [ins_mem]
  constructor
  · rintro (h | h | h)
    · exact .inr (.inl h)
    · exact .inl h
    · exact .inr (.inr h)
  · rintro (h | h | h)
    · exact .inr (.inl h)
    · exact .inl h
    · exact .inr (.inr h)
/-! Nodes by their ID. -/
def Ris (t : T) : Prop := t.Pairwise fun a b => a.nd.id < b.nd.id
theorem find_cons (e : En) (t : T) (i : Int) : find (e :: t) i = if e.nd.id = i then some e else find t i := by
  unfold find
  rw [List.find?_cons]
  by_cases h : e.nd.id = i
  · rw [if_pos h, beq_iff_eq.2 h]
  · rw [if_neg h, beq_eq_false_iff_ne.2 h]
theorem find_some {t : T} {i : Int} {e : En} (h : find t i = some e) : e ∈ t ∧ e.nd.id = i := by
  unfold find at h
  exact ⟨List.mem_of_find?_eq_some h, by simpa using List.find?_some h⟩
theorem find_none {t : T} {i : Int} : find t i = none ↔ ∀ e ∈ t, e.nd.id ≠ i := by
  unfold find
  rw [List.find?_eq_none]
  simp
theorem Ris.find {t : T} (hr : Ris t) {e : En} (h : e ∈ t) : find t e.nd.id = some e := by
  induction t with
  | nil => cases h
  | cons a t ih =>
    rw [find_cons]
    rcases List.mem_cons.1 h with rfl | h1
    · rw [if_pos rfl]
    · have := (List.pairwise_cons.1 hr).1 e h1
      rw [if_neg (by omega), ih (List.pairwise_cons.1 hr).2 h1]
/-- The node of an ID, what stands ahead of it and behind. -/
theorem Ris.split {t : T} (hr : Ris t) {i : Int} {e : En} (h : Tr.find t i = some e) : ∃ A B, t = A ++ e :: B ∧ e.nd.id = i ∧ (∀ a ∈ A, a.nd.id < i) ∧ (∀ b ∈ B, i < b.nd.id) := by
  obtain ⟨hm, rfl⟩ := find_some h
  obtain ⟨A, B, rfl⟩ := List.append_of_mem hm
  have h2 := List.pairwise_append.1 hr
  exact ⟨A, B, rfl, rfl, fun a ha => h2.2.2 a ha e (.head _), (List.pairwise_cons.1 h2.2.1).1⟩
theorem upd_none {t : T} {i : Int} (h : ∀ e ∈ t, e.nd.id ≠ i) (f : En → En) : upd t i f = t := by
  unfold upd
  conv => rhs; rw [← List.map_id t]
  apply List.map_congr_left
  intro e he
  rw [if_neg (by simpa using h e he)]
  rfl
theorem upd_app (A B : T) (i : Int) (f : En → En) : upd (A ++ B) i f = upd A i f ++ upd B i f := List.map_append
theorem upd_split {A B : T} {e : En} {i : Int} (he : e.nd.id = i) (hA : ∀ a ∈ A, a.nd.id < i) (hB : ∀ b ∈ B, i < b.nd.id) (f : En → En) : upd (A ++ e :: B) i f = A ++ f e :: B := by
  rw [upd_app, upd_none (fun a ha => by have := hA a ha; omega)]
  have e1 : upd (e :: B) i f = f e :: upd B i f := by
    show (if e.nd.id == i then f e else e) :: _ = _
    rw [if_pos (by simpa using he)]; rfl
  rw [e1, upd_none (fun b hb => by have := hB b hb; omega)]
theorem remove_split {A B : T} {e : En} {i : Int} (he : e.nd.id = i) (hA : ∀ a ∈ A, a.nd.id < i) (hB : ∀ b ∈ B, i < b.nd.id) : remove (A ++ e :: B) i = A ++ B := by
  unfold remove
  rw [List.filter_append, List.filter_cons, if_neg (by simp [he]), List.filter_eq_self.2 (fun a ha => by have := hA a ha; simp; omega), List.filter_eq_self.2 (fun b hb => by have := hB b hb; simp; omega)]
theorem upd_length (t : T) (i : Int) (f : En → En) : (upd t i f).length = t.length := List.length_map _
theorem find_upd {t : T} {i : Int} {f : En → En} (hf : ∀ e, (f e).nd.id = e.nd.id) (j : Int) : find (upd t i f) j = (find t j).map fun e => if j = i then f e else e := by
  induction t with
  | nil => rfl
  | cons e t ih =>
    show find ((if e.nd.id == i then f e else e) :: upd t i f) j = _
    rw [find_cons, find_cons]
    have hid : (if e.nd.id == i then f e else e).nd.id = e.nd.id := by split <;> simp [hf]
    rw [hid]
    by_cases h : e.nd.id = j
    · rw [if_pos h, if_pos h, ← h]; simp
    · rw [if_neg h, if_neg h, ih]
theorem find_remove (t : T) (i j : Int) : find (remove t i) j = if j = i then none else find t j := by
  induction t with
  | nil => simp [remove, find]
  | cons e t ih =>
    unfold remove at ih ⊢
    rw [List.filter_cons]
    by_cases h : e.nd.id = i
    · rw [if_neg (by simp [h]), ih, find_cons]
      by_cases hj : j = i
      · rw [if_pos hj, if_pos hj]
      · rw [if_neg hj, if_neg hj, if_neg (by omega)]
    · rw [if_pos (by simp [h]), find_cons, ih, find_cons]
      by_cases hj : j = i
      · rw [if_pos hj, if_pos hj, if_neg (by omega)]
      · rw [if_neg hj, if_neg hj]
theorem insE_perm (t : T) (n : En) : (insE t n).Perm (n :: t) := by
  induction t with
  | nil => exact .refl _
  | cons e t ih =>
    unfold insE
    split
    · exact (ih.cons e).trans (.swap _ _ _)
    · exact .refl _
theorem insE_mem {t : T} {n e : En} : e ∈ insE t n ↔ e = n ∨ e ∈ t := by
  rw [(insE_perm t n).mem_iff, List.mem_cons]
theorem insE_length (t : T) (n : En) : (insE t n).length = t.length + 1 := (insE_perm t n).length_eq
theorem insE_ris {t : T} (hr : Ris t) {n : En} (h : ∀ e ∈ t, e.nd.id ≠ n.nd.id) : Ris (insE t n) := by
  induction t with
  | nil => exact List.pairwise_singleton _ _
  | cons e t ih =>
    have hr2 := List.pairwise_cons.1 hr
    unfold insE
    split
    · rename_i h1
      refine List.pairwise_cons.2 ⟨fun m hm => ?_, ih hr2.2 fun m hm => h m (.tail _ hm)⟩
      rcases insE_mem.1 hm with rfl | hm
      · exact h1
      · exact hr2.1 m hm
    · rename_i h1
      have h2 : n.nd.id < e.nd.id := by have := h e (.head _); omega
      refine List.pairwise_cons.2 ⟨fun m hm => ?_, hr⟩
      rcases List.mem_cons.1 hm with rfl | hm
      · exact h2
      · have := hr2.1 m hm; omega
theorem find_insE {t : T} (hr : Ris t) {n : En} (h : ∀ e ∈ t, e.nd.id ≠ n.nd.id) (j : Int) : find (insE t n) j = if j = n.nd.id then some n else find t j := by
  have hi := insE_ris hr h
  by_cases hj : j = n.nd.id
  · rw [if_pos hj, hj]
    exact hi.find (insE_mem.2 (.inl rfl))
  · rw [if_neg hj]
    cases hg : find t j with
    | none =>
      refine find_none.2 fun e he => ?_
      rcases insE_mem.1 he with rfl | he
      · exact fun e2 => hj e2.symm
      · exact find_none.1 hg e he
    | some e =>
      obtain ⟨h1, rfl⟩ := find_some hg
      exact hi.find (insE_mem.2 (.inr h1))
/-- Where a node that has the least ID comes to stand. -/
theorem insE_at {t : T} (hr : Ris t) {n : En} (h : ∀ e ∈ t, e.nd.id ≠ n.nd.id) : ∃ A B, t = A ++ B ∧ insE t n = A ++ n :: B ∧ (∀ a ∈ A, a.nd.id < n.nd.id) ∧ (∀ b ∈ B, n.nd.id < b.nd.id) := by
  induction t with
  | nil => exact ⟨[], [], rfl, rfl, by simp, by simp⟩
  | cons e t ih =>
    have hr2 := List.pairwise_cons.1 hr
    unfold insE
    split
    · rename_i h1
      obtain ⟨A, B, h2, h3, h4, h5⟩ := ih hr2.2 fun m hm => h m (.tail _ hm)
      exact ⟨e :: A, B, by rw [h2]; rfl, by rw [h3]; rfl, fun a ha => by
        rcases List.mem_cons.1 ha with rfl | ha
        · exact h1
        · exact h4 a ha, h5⟩
    · rename_i h1
      have h2 : n.nd.id < e.nd.id := by have := h e (.head _); omega
      exact ⟨[], e :: t, rfl, rfl, by simp, fun b hb => by
        rcases List.mem_cons.1 hb with rfl | hb
        · exact h2
        · have := hr2.1 b hb; omega⟩
theorem freeFrom_spec (t : T) (hr : Ris t) (i : Int) (h : ∀ e ∈ t, i ≤ e.nd.id) : ∃ k : Nat, freeFrom i t = i + k ∧ k ≤ t.length ∧ (∀ e ∈ t, e.nd.id ≠ i + k) ∧ (∀ j : Nat, j < k → (t[j]?).map (·.nd.id) = some (i + j)) ∧ (∀ j : Nat, k ≤ j → ∀ e, t[j]? = some e → i + k < e.nd.id) := by
  induction t generalizing i with
  | nil => exact ⟨0, by simp [freeFrom], by simp, by simp, by simp, by simp⟩
  | cons e t ih =>
    have hr2 := List.pairwise_cons.1 hr
    by_cases h1 : e.nd.id = i
    · obtain ⟨k, h2, h3, h4, h5, h6⟩ := ih hr2.2 (i + 1) fun m hm => by have := hr2.1 m hm; omega
      refine ⟨k + 1, by rw [freeFrom, if_pos h1, h2]; omega, by simp only [List.length_cons]; omega, fun m hm => ?_, fun j hj => ?_, fun j hj m hm => ?_⟩
      · rcases List.mem_cons.1 hm with rfl | hm
        · omega
        · have := h4 m hm; omega
      · cases j with
        | zero => simp [h1]
        | succ j =>
          have := h5 j (by omega)
          simp only [List.getElem?_cons_succ, this]
          congr 1; omega
      · cases j with
        | zero => omega
        | succ j =>
          have := h6 j (by omega) m (by simpa using hm)
          omega
    · have h2 := h e (.head _)
      refine ⟨0, by rw [freeFrom, if_neg h1]; simp, by omega, fun m hm => ?_, fun j hj => by omega, fun j hj m hm => ?_⟩
      · rcases List.mem_cons.1 hm with rfl | hm
        · omega
        · have := hr2.1 m hm; omega
      · cases j with
        | zero =>
          obtain rfl : e = m := by simpa using hm
          omega
        | succ j =>
          have := hr2.1 m (List.mem_of_getElem? (by simpa using hm))
          omega
end Tr
end Go.Proofs.Ytpblhdpnmnfieaa
