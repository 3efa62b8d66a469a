/-
  OWN WORK. What a crash leaves: each sector is old, new, or the one that is torn: plain mathematics.
-/
import Derived.Test.YtenedgapjbmpgaaDiPure
namespace Go.Proofs.Ytenedgapjbmpgaa
namespace Di
/-- What is not dirty is safe. -/
structure Clean (d : Dk) (O : List (List UInt8)) : Prop where
  safe : d.safe = O
  eq : ∀ i : Nat, d.dirty[i]? = some false → d.now[i]? = O[i]?
theorem Clean.flush (d : Dk) : Clean d.flush d.now := ⟨rfl, fun _ _ => rfl⟩
theorem Clean.put {d : Dk} {O : List (List UInt8)} (h : Clean d O) (i : Nat) (b : List UInt8) : Clean (d.put i b) O := by
  refine ⟨h.safe, fun j hj => ?_⟩
  have hj : (d.dirty.set i true)[j]? = some false := hj
  show (d.now.set i b)[j]? = _
  by_cases e : i = j
  · subst e
    rw [List.getElem?_set] at hj
    simp only [if_true] at hj
    split at hj <;> simp at hj
  · rw [List.getElem?_set_ne e] at hj
    rw [List.getElem?_set_ne e]
    exact h.eq j hj
theorem left_false (keep : List Bool) (torn : Int) (c : Nat) : ∀ (ds : List Bool) (q : Nat) (ns ss : List (List UInt8)), ns.length = ds.length → ss.length = ds.length → ∀ i : Nat, ds[i]? = some false → (left keep torn c q ns ss ds)[i]? = ss[i]?
  | [], _, _, _, _, _, i, h => by simp at h
  | true :: ds, q, n :: ns, s :: ss, h1, h2, 0, h => by simp at h
  | true :: ds, q, n :: ns, s :: ss, h1, h2, i + 1, h => by
    simp only [left, List.getElem?_cons_succ] at h ⊢
    exact left_false keep torn c ds (q + 1) ns ss (by simpa using h1) (by simpa using h2) i h
  | false :: ds, q, n :: ns, s :: ss, h1, h2, 0, h => by simp [left]
  | false :: ds, q, n :: ns, s :: ss, h1, h2, i + 1, h => by
    simp only [left, List.getElem?_cons_succ] at h ⊢
    exact left_false keep torn c ds q ns ss (by simpa using h1) (by simpa using h2) i h
/-- Behind the torn one none is mixed. -/
theorem left_past (keep : List Bool) (torn : Int) (c : Nat) : ∀ (ds : List Bool) (q : Nat) (ns ss : List (List UInt8)), ns.length = ds.length → ss.length = ds.length → torn < (q : Int) → ∀ i : Nat, (left keep torn c q ns ss ds)[i]? = ss[i]? ∨ (left keep torn c q ns ss ds)[i]? = ns[i]?
  | [], _, [], [], _, _, _, i => by simp [left]
  | true :: ds, q, n :: ns, s :: ss, h1, h2, hq, 0 => by
    simp only [left, List.getElem?_cons_zero, Option.some.injEq]
    rw [if_neg (by omega)]
    split
    · exact .inr rfl
    · exact .inl rfl
  | true :: ds, q, n :: ns, s :: ss, h1, h2, hq, i + 1 => by
    simp only [left, List.getElem?_cons_succ]
    exact left_past keep torn c ds (q + 1) ns ss (by simpa using h1) (by simpa using h2) (by omega) i
  | false :: ds, q, n :: ns, s :: ss, h1, h2, hq, 0 => by simp [left]
  | false :: ds, q, n :: ns, s :: ss, h1, h2, hq, i + 1 => by
    simp only [left, List.getElem?_cons_succ]
    exact left_past keep torn c ds q ns ss (by simpa using h1) (by simpa using h2) hq i
/-- At most one is mixed. -/
theorem left_one (keep : List Bool) (torn : Int) (c : Nat) : ∀ (ds : List Bool) (q : Nat) (ns ss : List (List UInt8)), ns.length = ds.length → ss.length = ds.length → ∃ t : Nat, ∀ i : Nat, i ≠ t → (left keep torn c q ns ss ds)[i]? = ss[i]? ∨ (left keep torn c q ns ss ds)[i]? = ns[i]?
  | [], _, [], [], _, _ => ⟨0, fun i _ => by simp [left]⟩
  | true :: ds, q, n :: ns, s :: ss, h1, h2 => by
    by_cases hq : (q : Int) = torn
    · refine ⟨0, fun i hi => ?_⟩
      match i, hi with
      | 0, hi => exact absurd rfl hi
      | i + 1, _ =>
        simp only [left, List.getElem?_cons_succ]
        exact left_past keep torn c ds (q + 1) ns ss (by simpa using h1) (by simpa using h2) (by omega) i
    · obtain ⟨t, ht⟩ := left_one keep torn c ds (q + 1) ns ss (by simpa using h1) (by simpa using h2)
      refine ⟨t + 1, fun i hi => ?_⟩
      match i, hi with
      | 0, _ =>
        simp only [left, List.getElem?_cons_zero, Option.some.injEq]
        rw [if_neg hq]
        split
        · exact .inr rfl
        · exact .inl rfl
      | i + 1, hi =>
        simp only [left, List.getElem?_cons_succ]
        exact ht i (by omega)
  | false :: ds, q, n :: ns, s :: ss, h1, h2 => by
    obtain ⟨t, ht⟩ := left_one keep torn c ds q ns ss (by simpa using h1) (by simpa using h2)
    refine ⟨t + 1, fun i hi => ?_⟩
    match i, hi with
    | 0, _ => simp [left]
    | i + 1, hi =>
      simp only [left, List.getElem?_cons_succ]
      exact ht i (by omega)
theorem mem_dirty : ∀ (ds : List Bool) (q i : Nat), ((q + i : Nat) : Int) ∈ dirtyFrom q ds ↔ ds[i]? = some true
  | [], q, i => by simp [dirtyFrom]
  | true :: ds, q, 0 => by simp [dirtyFrom]
  | true :: ds, q, i + 1 => by
    have := mem_dirty ds (q + 1) i
    rw [show q + 1 + i = q + (i + 1) by omega] at this
    simp only [dirtyFrom, List.mem_cons, List.getElem?_cons_succ]
    rw [← this]
    constructor
    · rintro (h | h)
      · omega
      · exact h
    · exact .inr
  | false :: ds, q, 0 => by
    simp only [dirtyFrom, List.getElem?_cons_zero, Option.some.injEq, Bool.false_eq_true, iff_false]
    intro h
    have ge : ∀ (ds : List Bool) (q : Nat) (x : Int), x ∈ dirtyFrom q ds → (q : Int) ≤ x := by
      intro ds
      induction ds with
      | nil => intro q x h; simp [dirtyFrom] at h
      | cons d ds ih =>
        intro q x h
        cases d
        · have := ih (q + 1) x h; omega
        · simp only [dirtyFrom, List.mem_cons] at h
          rcases h with h | h
          · omega
          · have := ih (q + 1) x h; omega
    have := ge ds (q + 1) _ h
    omega
  | false :: ds, q, i + 1 => by
    have := mem_dirty ds (q + 1) i
    rw [show q + 1 + i = q + (i + 1) by omega] at this
    simpa [dirtyFrom] using this
theorem dirty_len : ∀ (ds : List Bool) (q : Nat), (dirtyFrom q ds).length ≤ ds.length
  | [], _ => Nat.le_refl _
  | true :: ds, q => by have := dirty_len ds (q + 1); simp only [dirtyFrom, List.length_cons]; omega
  | false :: ds, q => by have := dirty_len ds (q + 1); simp only [dirtyFrom, List.length_cons]; omega
theorem flat_at : ∀ (l : List (List UInt8)) (i : Nat), (∀ x ∈ l, x.length = 128) → (h : i < l.length) → (l.flatten.drop (128 * i)).take 128 = l[i]
  | [], i, _, h => by simp at h
  | x :: l, 0, hl, _ => by
    have hx := hl x (.head _)
    rw [Nat.mul_zero, List.drop_zero, List.flatten_cons, ← hx, List.take_left]
    rfl
  | x :: l, i + 1, hl, h => by
    have hx := hl x (.head _)
    have ih := flat_at l i (fun y hy => hl y (.tail _ hy)) (by simpa using h)
    rw [List.flatten_cons, show 128 * (i + 1) = x.length + 128 * i by omega, List.drop_length_add_append, ih]
    rfl
end Di
end Go.Proofs.Ytenedgapjbmpgaa
