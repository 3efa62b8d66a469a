/-
  OWN WORK. Trees: plain mathematics: what is right of a tree; it stays right, whatever is done.
-/
import Derived.Test.YtpblhdpnmnfieaaLTrLaw
namespace Go.Proofs.Ytpblhdpnmnfieaa
open Go.RowKit
namespace Tr
variable {t : T}
theorem Good.ris (h : Good t) : Ris t := h.rise
theorem find_isSome {i : Int} : (find t i).isSome = true ↔ ∃ e ∈ t, e.nd.id = i := by
  cases hf : find t i with
  | none =>
    simp only [Option.isSome_none, Bool.false_eq_true, false_iff]
    rintro ⟨e, he, h⟩
    exact find_none.1 hf e he h
  | some e =>
    obtain ⟨h1, h2⟩ := find_some hf
    simp only [Option.isSome_some, true_iff]
    exact ⟨e, h1, h2⟩
theorem kids_of {i : Int} {e : En} (h : find t i = some e) : kids t i = e.names := by unfold kids; rw [h]; rfl
theorem ndOf_of {i : Int} {e : En} (h : find t i = some e) : ndOf t i = e.nd := by unfold ndOf; rw [h]; rfl
theorem kindOf_of {i : Int} {e : En} (h : find t i = some e) : kindOf t i = e.nd.kind := by unfold kindOf; rw [ndOf_of h]
theorem dataOf_of {i : Int} {e : En} (h : find t i = some e) : dataOf t i = e.data := by unfold dataOf; rw [h]; rfl
theorem kindOf_no {i : Int} (h : find t i = none) : kindOf t i = 0 := by unfold kindOf ndOf; rw [h]; rfl
theorem kids_no {i : Int} (h : find t i = none) : kids t i = [] := by unfold kids; rw [h]; rfl
theorem Good.zero (h : Good t) : ∃ r, find t 0 = some r ∧ r.nd.kind = 2 ∧ r.nd.id = 0 := by
  obtain ⟨r, rest, rfl, h1, h2⟩ := h.root
  exact ⟨r, by rw [find_cons, if_pos h1], h2, h1⟩
theorem Good.kind (h : Good t) {e : En} (he : e ∈ t) : e.nd.kind = 1 ∨ e.nd.kind = 2 := by
  have := (h.each e he).nd
  exact this.2.2.2.2.2.2.2.imp id fun k => k.1
theorem Good.has (h : Good t) {i : Int} (hk : kindOf t i = 2) : ∃ e, find t i = some e := by
  cases hf : find t i with
  | none => rw [kindOf_no hf] at hk; omega
  | some e => exact ⟨e, rfl⟩
theorem kids_mem {i : Int} {n : Nm} (h : n ∈ kids t i) : ∃ e, find t i = some e ∧ n ∈ e.names := by
  cases hf : find t i with
  | none => rw [kids_no hf] at h; cases h
  | some e => rw [kids_of hf] at h; exact ⟨e, rfl, h⟩
theorem Good.rises (h : Good t) (i : Int) : Rise (kids t i) := by
  cases hf : find t i with
  | none => rw [kids_no hf]; exact List.Pairwise.nil
  | some e => rw [kids_of hf]; exact (h.each e (find_some hf).1).rise
theorem Good.leads_to (h : Good t) {i : Int} {n : Nm} (hn : n ∈ kids t i) : n.2 ≠ 0 ∧ (find t n.2).isSome = true := by
  obtain ⟨e, he, h1⟩ := kids_mem hn
  exact h.leads e (find_some he).1 n h1
theorem Good.file_kids (h : Good t) {i : Int} (hk : kindOf t i ≠ 2) : kids t i = [] := by
  cases hf : find t i with
  | none => exact kids_no hf
  | some e =>
    rw [kids_of hf]
    rw [kindOf_of hf] at hk
    refine (h.each e (find_some hf).1).file ?_
    rcases h.kind (find_some hf).1 with h1 | h1
    · exact h1
    · exact absurd h1 hk
/-! How many names there are. -/
theorem flat_mem {x : Int × Nm} : x ∈ flat t ↔ ∃ e ∈ t, e.nd.id = x.1 ∧ x.2 ∈ e.names := by
  unfold flat
  rw [List.mem_flatMap]
  constructor
  · rintro ⟨e, he, hx⟩
    obtain ⟨n, hn, rfl⟩ := List.mem_map.1 hx
    exact ⟨e, he, rfl, hn⟩
  · rintro ⟨e, he, h1, h2⟩
    exact ⟨e, he, List.mem_map.2 ⟨x.2, h2, by rw [h1]⟩⟩
theorem countP_sum {α : Type} (f : α → Int) (I : List Int) : ∀ L : List α, (∀ x ∈ L, f x ∈ I) → L.length ≤ (I.map fun i => L.countP fun x => f x == i).sum
  | [], _ => Nat.zero_le _
  | x :: L, h => by
    have ih := countP_sum f I L fun y hy => h y (.tail _ hy)
    have hx := h x (.head _)
    have key : ∀ J : List Int, (J.map fun i => L.countP fun x => f x == i).sum ≤ (J.map fun i => (x :: L).countP fun x => f x == i).sum ∧ (f x ∈ J → (J.map fun i => L.countP fun x => f x == i).sum + 1 ≤ (J.map fun i => (x :: L).countP fun x => f x == i).sum) := by
      intro J
      induction J with
      | nil => exact ⟨Nat.le_refl _, fun h => by cases h⟩
      | cons j J ih2 =>
        simp only [List.map_cons, List.sum_cons]
        have h1 : List.countP (fun x => f x == j) L ≤ List.countP (fun x => f x == j) (x :: L) := by rw [List.countP_cons]; omega
        refine ⟨by have := ih2.1; omega, fun hm => ?_⟩
        by_cases e : f x = j
        · have h2 : List.countP (fun x => f x == j) (x :: L) = List.countP (fun x => f x == j) L + 1 := by rw [List.countP_cons, if_pos (by simpa using e)]
          have := ih2.1
          omega
        · rcases List.mem_cons.1 hm with h3 | h3
          · exact absurd h3 e
          · have := ih2.2 h3
            omega
    have := (key I).2 hx
    simp only [List.length_cons]
    omega
theorem Good.flat_le (h : Good t) : (flat t).length ≤ 4194240 := by
  have h1 := countP_sum (fun x : Int × Nm => x.2.2) (t.map fun e => e.nd.id) (flat t) fun x hx => by
    obtain ⟨e, he, _, h2⟩ := flat_mem.1 hx
    obtain ⟨_, h3⟩ := h.leads e he x.2 h2
    obtain ⟨e', h4, h5⟩ := find_isSome.1 h3
    exact List.mem_map.2 ⟨e', h4, h5⟩
  have h2 : ((t.map fun e => e.nd.id).map fun i => (flat t).countP fun x => x.2.2 == i).sum ≤ t.length * 65535 := by
    have key : ∀ u : T, (∀ e ∈ u, e ∈ t) → ((u.map fun e => e.nd.id).map fun i => (flat t).countP fun x => x.2.2 == i).sum ≤ u.length * 65535 := by
      intro u
      induction u with
      | nil => intro _; simp
      | cons e u ih =>
        intro hu
        have h3 := ih fun m hm => hu m (.tail _ hm)
        have he := hu e (.head _)
        have h4 := h.linked e he
        have h5 := (h.each e he).nd.2.2.2.1
        unfold count at h4
        have h6 : (flat t).countP (fun x => x.2.2 == e.nd.id) ≤ 65535 := by
          split at h4 <;> omega
        simp only [List.map_cons, List.sum_cons, List.length_cons] at h3 ⊢
        omega
    exact key t fun e he => he
  have := h.few
  omega
theorem names_le_flat {e : En} (he : e ∈ t) : e.names.length ≤ (flat t).length := by
  obtain ⟨A, B, rfl⟩ := List.append_of_mem he
  simp only [flat, List.flatMap_append, List.flatMap_cons, List.length_append, List.length_map]
  omega
theorem Good.names_le (h : Good t) {e : En} (he : e ∈ t) : e.names.length ≤ 4194240 := Nat.le_trans (names_le_flat he) h.flat_le
/-! Looking. -/
theorem lookF_cons (i : Int) (x : Bs) (p : List Bs) : lookF t i (x :: p) = if kindOf t i ≠ 2 then (0, 23) else match get (kids t i) x with | none => (0, 20) | some k => lookF t k p := rfl
theorem lookF_is {i : Int} (hi : (find t i).isSome = true) (h : Good t) : ∀ {p : List Bs}, (lookF t i p).2 = 0 → (find t (lookF t i p).1).isSome = true
  | [], _ => hi
  | x :: p, h1 => by
    rw [lookF_cons] at h1 ⊢
    split at h1
    · simp at h1
    · rename_i hk
      rw [if_neg hk]
      cases hg : get (kids t i) x with
      | none => rw [hg] at h1; simp at h1
      | some k =>
        rw [hg] at h1
        exact lookF_is (h.leads_to (get_mem hg)).2 h h1
theorem Good.look_is (h : Good t) {p : List Bs} (h1 : (lookF t 0 p).2 = 0) : (find t (lookF t 0 p).1).isSome = true := by
  obtain ⟨r, h2, _⟩ := h.zero
  exact lookF_is (by rw [h2]; rfl) h h1
theorem lookF_app (i : Int) (p q : List Bs) : lookF t i (p ++ q) = if (lookF t i p).2 ≠ 0 then lookF t i p else lookF t (lookF t i p).1 q := by
  induction p generalizing i with
  | nil => simp [lookF]
  | cons x p ih =>
    rw [List.cons_append, lookF_cons, lookF_cons]
    split
    · simp
    · cases get (kids t i) x with
      | none => simp
      | some k => exact ih k
theorem lookF_bad (i : Int) : ∀ (p : List Bs), (lookF t i p).2 ≠ 0 → (lookF t i p).1 = 0
  | [], h => absurd rfl h
  | x :: p, h => by
    rw [lookF_cons] at h ⊢
    split
    · rfl
    · rename_i hk
      rw [if_neg hk] at h
      cases hg : get (kids t i) x with
      | none => rfl
      | some k => rw [hg] at h; exact lookF_bad k p h
theorem place_is (h : Good t) {p : List Bs} (h1 : (place t p).2.2 = 0) : ∃ q x e, p = q ++ [x] ∧ lookF t 0 q = ((place t p).1, 0) ∧ (place t p).2.1 = x ∧ find t (place t p).1 = some e ∧ e.nd.kind = 2 ∧ place t p = (e.nd.id, x, 0) := by
  unfold place at h1 ⊢
  split at h1
  · simp at h1
  · rename_i hp
    split at h1
    · rename_i h2
      exact absurd h1 h2
    · rename_i h2
      split at h1
      · simp at h1
      · rename_i h3
        rw [if_neg hp, if_neg h2, if_neg h3]
        have h4 : kindOf t (lookF t 0 p.dropLast).1 = 2 := Decidable.byContradiction h3
        obtain ⟨e, he⟩ := h.has h4
        have h5 : (lookF t 0 p.dropLast).2 = 0 := Decidable.byContradiction h2
        refine ⟨p.dropLast, p.getLast hp, e, (List.dropLast_concat_getLast hp).symm, Prod.ext rfl h5, ?_, he, ?_, ?_⟩
        · rw [List.getLastD_eq_getLast?, List.getLast?_eq_some_getLast hp]; rfl
        · rw [← kindOf_of he]; exact h4
        · rw [(find_some he).2, List.getLastD_eq_getLast?, List.getLast?_eq_some_getLast hp]; rfl
theorem upd_ris (h : Ris t) {i : Int} {f : En → En} (hf : ∀ e, (f e).nd.id = e.nd.id) : Ris (upd t i f) := by
  unfold upd Ris
  rw [List.pairwise_map]
  refine List.Pairwise.imp ?_ h
  intro a b hab
  have e : ∀ x : En, (if x.nd.id == i then f x else x).nd.id = x.nd.id := fun x => by split <;> simp [hf]
  rw [e, e]; exact hab
theorem map_ris (h : Ris t) {f : En → En} (hf : ∀ e, (f e).nd.id = e.nd.id) : Ris (t.map f) := by
  unfold Ris
  rw [List.pairwise_map]
  refine List.Pairwise.imp ?_ h
  intro a b hab
  rw [hf, hf]; exact hab
theorem remove_ris (h : Ris t) (i : Int) : Ris (remove t i) := h.filter _
theorem find_upd_same {i : Int} {e : En} {f : En → En} (hf : ∀ e, (f e).nd.id = e.nd.id) (h : find t i = some e) : find (upd t i f) i = some (f e) := by
  rw [find_upd hf, h]; simp
theorem find_map {f : En → En} (hf : ∀ e, (f e).nd.id = e.nd.id) (i : Int) : find (t.map f) i = (find t i).map f := by
  induction t with
  | nil => rfl
  | cons e t ih =>
    rw [List.map_cons, find_cons, find_cons, hf, ih]
    split <;> rfl
theorem file_cases (t : T) (i : Int) : (file t i = 20 ∧ find t i = none) ∨ (file t i = 22 ∧ ∃ e, find t i = some e ∧ e.nd.kind = 2) ∨ (file t i = 0 ∧ ∃ e, find t i = some e ∧ e.nd.kind ≠ 2) := by
  unfold file
  cases hf : find t i with
  | none => exact .inl ⟨rfl, rfl⟩
  | some e =>
    rw [kindOf_of hf]
    by_cases h : e.nd.kind = 2
    · exact .inr (.inl ⟨by simp [h], e, rfl, h⟩)
    · exact .inr (.inr ⟨by simp [h], e, rfl, h⟩)
/-- The number of the refusal, if it is no file that may be written. -/
def openN (t : T) (i : Int) : Nat := if file t i ≠ 0 then file t i else if (ndOf t i).shut = true then 27 else 0
end Tr
end Go.Proofs.Ytpblhdpnmnfieaa
