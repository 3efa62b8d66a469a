/-
  OWN WORK. Chapter 7 as functions of lists of bytes: names that are good, what a path is parted into, and joined to.
-/
namespace Go.Proofs.Ytpblhdpnmnfieaa
namespace Pa

abbrev Bytes := List UInt8
/-- A byte that a name may have. -/
def okByte (c : UInt8) : Bool := (97 ≤ c.toNat && c.toNat ≤ 122) || (48 ≤ c.toNat && c.toNat ≤ 57) || c == 46 || c == 45 || c == 95
def good (n : Bytes) : Bool := n.all okByte && decide (1 ≤ n.length) && decide (n.length ≤ 16) && n != [46] && n != [46, 46]
/-- What stands between the strokes, the first of them too. -/
def pieces : Bytes → List Bytes
  | [] => [[]]
  | c :: s => if c = 47 then [] :: pieces s else match pieces s with
    | [] => [[c]]
    | p :: ps => (c :: p) :: ps
def join (l : List Bytes) : Bytes := if l = [] then [47] else l.flatMap (47 :: ·)
/-- What a path is parted into, and the number of the refusal. -/
def split (d : Nat) (s : Bytes) : List Bytes × Nat :=
  if s = [47] then ([], 0)
  else match s with
    | [] => ([], 12)
    | c :: s => if c = 47 then
        (if (pieces s).all good then (if (pieces s).length ≤ d then (pieces s, 0) else ([], 3)) else ([], 12))
      else ([], 12)

theorem pieces_ne (s : Bytes) : pieces s ≠ [] := by
  induction s with
  | nil => simp [pieces]
  | cons c s ih =>
    unfold pieces
    split
    · simp
    · cases h : pieces s <;> simp
/-- The pieces, each behind a stroke, are the text behind a stroke. -/
theorem join_pieces (s : Bytes) : (pieces s).flatMap (47 :: ·) = 47 :: s := by
  induction s with
  | nil => simp [pieces]
  | cons c s ih =>
    unfold pieces
    split
    · rename_i h; rw [List.flatMap_cons, ih, h]; rfl
    · cases h : pieces s with
      | nil => exact absurd h (pieces_ne s)
      | cons p ps =>
        rw [h] at ih
        simp only [List.flatMap_cons, List.cons_append, List.cons.injEq, true_and] at ih ⊢
        rw [ih]
theorem pieces_plain {p : Bytes} (h : ∀ c ∈ p, c ≠ 47) : pieces p = [p] := by
  induction p with
  | nil => rfl
  | cons c s ih =>
    unfold pieces
    rw [if_neg (h c (by simp)), ih fun d hd => h d (by simp [hd])]
theorem pieces_app {p s : Bytes} (h : ∀ c ∈ p, c ≠ 47) : pieces (p ++ 47 :: s) = p :: pieces s := by
  induction p with
  | nil => simp [pieces]
  | cons c q ih =>
    rw [List.cons_append]
    have e : ∀ x, pieces (c :: x) = (match pieces x with | [] => [[c]] | p :: ps => (c :: p) :: ps) := fun x => by rw [pieces, if_neg (h c (by simp))]
    rw [e, ih fun d hd => h d (by simp [hd])]
theorem pieces_join {p : Bytes} {ps : List Bytes} (h : ∀ q ∈ p :: ps, ∀ c ∈ q, c ≠ 47) : pieces (p ++ ps.flatMap (47 :: ·)) = p :: ps := by
  induction ps generalizing p with
  | nil => simpa using pieces_plain (h p (by simp))
  | cons q ps ih =>
    rw [List.flatMap_cons, List.cons_append, pieces_app (h p (by simp)), ih fun x hx => h x (by simp only [List.mem_cons] at hx ⊢; exact .inr hx)]
theorem okByte_ne {c : UInt8} (h : okByte c = true) : c ≠ 47 := by
  intro e; subst e; exact absurd h (by decide)
theorem good_ne {n : Bytes} (h : good n = true) : ∀ c ∈ n, c ≠ 47 := by
  simp only [good, Bool.and_eq_true, List.all_eq_true] at h
  exact fun c hc => okByte_ne (h.1.1.1.1 c hc)
theorem good_pos {n : Bytes} (h : good n = true) : 1 ≤ n.length := by
  simp only [good, Bool.and_eq_true, decide_eq_true_eq] at h
  exact h.1.1.1.2
/-- Names that are good are parted from what is joined of them. -/
theorem split_join {d : Nat} {l : List Bytes} (h : ∀ n ∈ l, good n = true) (hd : l.length ≤ d) : split d (join l) = (l, 0) := by
  cases l with
  | nil => rfl
  | cons p ps =>
    have hp := good_pos (h p (by simp))
    have e : join (p :: ps) = 47 :: (p ++ ps.flatMap (47 :: ·)) := by simp [join]
    rw [e]
    unfold split
    have hne : ¬ (47 :: (p ++ ps.flatMap (47 :: ·)) = [47]) := by
      intro h2
      cases p with
      | nil => simp at hp
      | cons x y => simp at h2
    rw [if_neg hne]
    simp only [if_true]
    rw [pieces_join fun q hq => good_ne (h q hq), if_pos (List.all_eq_true.2 fun q hq => h q hq), if_pos hd]
/-- What is parted is joined again. -/
theorem join_split {d : Nat} {s : Bytes} (h : (split d s).2 = 0) : join (split d s).1 = s := by
  unfold split at h ⊢
  split
  · rename_i h1; rw [h1]; rfl
  · rename_i h1
    rw [if_neg h1] at h
    cases s with
    | nil => simp at h
    | cons c s =>
      simp only at h ⊢
      by_cases hc : c = 47
      · rw [if_pos hc] at h ⊢
        by_cases hg : (pieces s).all good = true
        · rw [if_pos hg] at h ⊢
          by_cases hl : (pieces s).length ≤ d
          · rw [if_pos hl]
            simp only [join, if_neg (pieces_ne s), join_pieces, hc]
          · rw [if_neg hl] at h; simp at h
        · rw [if_neg hg] at h; simp at h
      · rw [if_neg hc] at h; simp at h
theorem split_none {d : Nat} {s : Bytes} (h : (split d s).2 ≠ 0) : (split d s).1 = [] := by
  unfold split at h ⊢
  split
  · rfl
  · rename_i h1
    rw [if_neg h1] at h
    cases s with
    | nil => rfl
    | cons c s =>
      simp only at h ⊢
      by_cases hc : c = 47
      · rw [if_pos hc] at h ⊢
        by_cases hg : (pieces s).all good = true
        · rw [if_pos hg] at h ⊢
          by_cases hl : (pieces s).length ≤ d
          · rw [if_pos hl] at h; simp at h
          · rw [if_neg hl]
        · rw [if_neg hg]
      · rw [if_neg hc]
/-- Where a path is being parted: the names so far, and what is left. -/
structure Parts (s0 t : Bytes) (c : List Bytes) : Prop where
  good : ∀ n ∈ c, good n = true
  way : ∃ u0, s0 = 47 :: u0 ∧ u0 ≠ [] ∧ (t = [] → pieces u0 = c) ∧ (t ≠ [] → ∃ u, t = 47 :: u ∧ pieces u0 = c ++ pieces u)
theorem Parts.begin {u : Bytes} (h : u ≠ []) : Parts (47 :: u) (47 :: u) [] := ⟨(fun n hn => by cases hn), u, rfl, h, (fun e => by cases e), fun _ => ⟨u, rfl, rfl⟩⟩
theorem Parts.form {s0 t : Bytes} {c : List Bytes} (h : Parts s0 t c) (ht : t ≠ []) : ∃ u, t = 47 :: u := by
  obtain ⟨_, _, _, _, h2⟩ := h.way
  obtain ⟨u, e, _⟩ := h2 ht
  exact ⟨u, e⟩
theorem pieces_next {p r : Bytes} (hp : ∀ x ∈ p, x ≠ 47) (hr : r = [] ∨ ∃ r', r = 47 :: r') : (r = [] → pieces (p ++ r) = [p]) ∧ (r ≠ [] → ∃ r', r = 47 :: r' ∧ pieces (p ++ r) = p :: pieces r') := by
  rcases hr with rfl | ⟨r', rfl⟩
  · exact ⟨(fun _ => by rw [List.append_nil]; exact pieces_plain hp), fun h => absurd rfl h⟩
  · exact ⟨(fun h => by cases h), fun _ => ⟨r', rfl, pieces_app hp⟩⟩
theorem Parts.step {s0 p r : Bytes} {c : List Bytes} (h : Parts s0 (47 :: (p ++ r)) c) (hp : ∀ x ∈ p, x ≠ 47) (hr : r = [] ∨ ∃ r', r = 47 :: r') (hg : Pa.good p = true) : Parts s0 r (c ++ [p]) := by
  obtain ⟨u0, e0, hu, _, h2⟩ := h.way
  obtain ⟨u, e, h3⟩ := h2 (by simp)
  simp only [List.cons.injEq, true_and] at e
  subst e
  obtain ⟨n1, n2⟩ := pieces_next hp hr
  refine ⟨fun n hn => ?_, u0, e0, hu, fun hr0 => by rw [h3, n1 hr0], fun hr0 => ?_⟩
  · rcases List.mem_append.1 hn with h4 | h4
    · exact h.good n h4
    · simp only [List.mem_singleton] at h4; rw [h4]; exact hg
  · obtain ⟨r', e', h4⟩ := n2 hr0
    exact ⟨r', e', by rw [h3, h4, List.append_assoc]; rfl⟩
theorem split_of {d : Nat} {u : Bytes} (h : u ≠ []) : split d (47 :: u) = if (pieces u).all Pa.good then (if (pieces u).length ≤ d then (pieces u, 0) else ([], 3)) else ([], 12) := by
  unfold split
  rw [if_neg (by simpa using h)]
  simp
theorem Parts.bad {d : Nat} {s0 p r : Bytes} {c : List Bytes} (h : Parts s0 (47 :: (p ++ r)) c) (hp : ∀ x ∈ p, x ≠ 47) (hr : r = [] ∨ ∃ r', r = 47 :: r') (hg : Pa.good p = false) : split d s0 = ([], 12) := by
  obtain ⟨u0, rfl, hu, _, h2⟩ := h.way
  obtain ⟨u, e, h3⟩ := h2 (by simp)
  simp only [List.cons.injEq, true_and] at e
  subst e
  obtain ⟨n1, n2⟩ := pieces_next hp hr
  have hm : p ∈ pieces u0 := by
    rw [h3]
    by_cases hr0 : r = []
    · rw [n1 hr0]; simp
    · obtain ⟨r', _, h4⟩ := n2 hr0
      rw [h4]; simp
  rw [split_of hu, if_neg]
  rw [Bool.not_eq_true, List.all_eq_false]
  exact ⟨p, hm, by rw [hg]; decide⟩
theorem Parts.done {d : Nat} {s0 : Bytes} {c : List Bytes} (h : Parts s0 [] c) : split d s0 = if c.length ≤ d then (c, 0) else ([], 3) := by
  obtain ⟨u0, rfl, hu, h1, _⟩ := h.way
  rw [split_of hu, h1 rfl, if_pos (List.all_eq_true.2 h.good)]
/-- The first stroke from 1 on parts a text. -/
theorem part_at {u : Bytes} {k : Nat} (h1 : 1 ≤ k) (h2 : k ≤ u.length + 1) (h3 : ∀ (j : Nat) (c : UInt8), 1 ≤ j → j < k → (47 :: u)[j]? = some c → c ≠ 47) (h4 : k = u.length + 1 ∨ (47 :: u)[k]? = some 47) :
    ∃ p r, u = p ++ r ∧ (∀ c ∈ p, c ≠ 47) ∧ (r = [] ∨ ∃ r', r = 47 :: r') ∧ 1 + p.length = k := by
  obtain ⟨m, rfl⟩ : ∃ m, k = m + 1 := ⟨k - 1, by omega⟩
  refine ⟨u.take m, u.drop m, (List.take_append_drop m u).symm, fun c hc => ?_, ?_, by rw [List.length_take]; omega⟩
  · obtain ⟨j, hj, rfl⟩ := List.getElem_of_mem hc
    rw [List.length_take] at hj
    refine h3 (j + 1) _ (by omega) (by omega) ?_
    rw [List.getElem?_cons_succ, List.getElem_take, List.getElem?_eq_getElem]
  · rcases h4 with h4 | h4
    · exact .inl (List.drop_of_length_le (by omega))
    · rw [List.getElem?_cons_succ] at h4
      obtain ⟨hm, e⟩ := List.getElem?_eq_some_iff.1 h4
      exact .inr ⟨u.drop (m + 1), by rw [List.drop_eq_getElem_cons hm, e]⟩
end Pa
end Go.Proofs.Ytpblhdpnmnfieaa
