/-
  OWN WORK. Trees: what stands below a directory; one way alone leads to a directory.
-/
import Derived.Test.YtombmeppdhhjhaaGreatQ06
namespace Go.Proofs.YtombmeppdhhjhaaGreat
open Go.RowKit
namespace Tr
variable {t : T}
theorem count_two {α : Type} {p : α → Bool} : ∀ {l : List α} {a b : α}, a ∈ l → b ∈ l → a ≠ b → p a = true → p b = true → 2 ≤ l.countP p
  | c :: l, a, b, ha, hb, hne, hpa, hpb => by
    rcases List.mem_cons.1 ha with rfl | ha1 <;> rcases List.mem_cons.1 hb with rfl | hb1
    · exact absurd rfl hne
    · rw [List.countP_cons_of_pos hpa]
      have := List.countP_pos_iff.2 ⟨b, hb1, hpb⟩
      omega
    · rw [List.countP_cons_of_pos hpb]
      have := List.countP_pos_iff.2 ⟨a, ha1, hpa⟩
      omega
    · have := count_two ha1 hb1 hne hpa hpb
      rw [List.countP_cons]
      omega
theorem Good.one_name (h : Good t) {j : Int} (hk : kindOf t j = 2) {e e' : En} (he : e ∈ t) (he' : e' ∈ t) {n n' : Nm} (hn : n ∈ e.names) (hn' : n' ∈ e'.names) (h1 : n.2 = j) (h2 : n'.2 = j) : e = e' ∧ n = n' := by
  have key : (e.nd.id, n) = (e'.nd.id, n') := by
    refine Decidable.byContradiction fun hne => ?_
    have hc : 2 ≤ count t j := count_two (flat_mem.2 ⟨e, he, rfl, hn⟩) (flat_mem.2 ⟨e', he', rfl, hn'⟩) hne (by simp [h1]) (by simp [h2])
    obtain ⟨ej, hej⟩ := h.has hk
    obtain ⟨hm, hid⟩ := find_some hej
    have h3 := h.linked ej hm
    have h4 := h.dirs ej hm (by rw [← kindOf_of hej]; exact hk)
    have h5 := (h.leads e he n hn).1
    rw [hid, if_neg (by rw [← h1]; exact h5), h4] at h3
    omega
  obtain ⟨h3, h4⟩ := Prod.mk.inj key
  refine ⟨?_, h4⟩
  have := h.ris.find he
  rw [h3, h.ris.find he'] at this
  injection this with this
  exact this.symm
theorem Good.look_on (h : Good t) {i : Int} {q : List Bs} {e : En} (he : e ∈ t) (hl : lookF t i q = (e.nd.id, 0)) (hk : e.nd.kind = 2) {n : Nm} (hn : n ∈ e.names) : lookF t i (q ++ [n.1]) = (n.2, 0) := by
  have hf := h.ris.find he
  rw [lookF_app, hl, if_neg (by simp), lookF_cons, kindOf_of hf, if_neg (by simp [hk]), kids_of hf, get_of_mem (h.each e he).rise hn]
  rfl
theorem Good.look_back (h : Good t) {i j : Int} {q : List Bs} {x : Bs} (hl : lookF t i (q ++ [x]) = (j, 0)) : ∃ e ∈ t, lookF t i q = (e.nd.id, 0) ∧ e.nd.kind = 2 ∧ (x, j) ∈ e.names := by
  rw [lookF_app] at hl
  split at hl
  · rename_i h2
    rw [hl] at h2
    exact absurd rfl h2
  · rename_i h2
    have h3 : (lookF t i q).2 = 0 := Decidable.byContradiction h2
    obtain ⟨d, hd⟩ : ∃ d, d = (lookF t i q).1 := ⟨_, rfl⟩
    rw [← hd, lookF_cons] at hl
    split at hl
    · cases hl
    · rename_i h4
      have hk : kindOf t d = 2 := Decidable.byContradiction h4
      obtain ⟨en, hen⟩ := h.has hk
      rw [kids_of hen] at hl
      cases hg : get en.names x with
      | none => rw [hg] at hl; cases hl
      | some k =>
        rw [hg] at hl
        have hkj : k = j := congrArg Prod.fst (show (k, 0) = (j, 0) from hl)
        refine ⟨en, (find_some hen).1, Prod.ext ?_ h3, by rw [← kindOf_of hen]; exact hk, hkj ▸ get_mem hg⟩
        rw [(find_some hen).2, hd]
theorem Good.one_path (h : Good t) : ∀ (n : Nat) (a b : List Bs) (j : Int), a.length ≤ n → lookF t 0 a = (j, 0) → lookF t 0 b = (j, 0) → kindOf t j = 2 → a = b
  | n, a, b, j, hn, ha, hb, hk => by
    have zero : ∀ (q : List Bs) (x : Bs), lookF t 0 (q ++ [x]) = (0, 0) → False := fun q x hq => by
      obtain ⟨e, he, _, _, hm⟩ := h.look_back hq
      exact (h.leads e he _ hm).1 rfl
    rcases List.eq_nil_or_concat a with rfl | ⟨a1, x, rfl⟩
    · have hj : (0 : Int) = j := congrArg Prod.fst (show ((0 : Int), 0) = (j, 0) from ha)
      subst hj
      rcases List.eq_nil_or_concat b with rfl | ⟨b1, y, rfl⟩
      · rfl
      · rw [List.concat_eq_append] at hb
        exact (zero _ _ hb).elim
    · rw [List.concat_eq_append] at ha hn ⊢
      rcases List.eq_nil_or_concat b with rfl | ⟨b1, y, rfl⟩
      · have hj : (0 : Int) = j := congrArg Prod.fst (show ((0 : Int), 0) = (j, 0) from hb)
        subst hj
        exact (zero _ _ ha).elim
      · rw [List.concat_eq_append] at hb ⊢
        obtain ⟨e, he, h1, h2, h3⟩ := h.look_back ha
        obtain ⟨e', he', h4, h5, h6⟩ := h.look_back hb
        obtain ⟨rfl, h7⟩ := h.one_name hk he he' h3 h6 rfl rfl
        obtain ⟨rfl, _⟩ := Prod.mk.inj h7
        rw [List.length_append] at hn
        have : a1.length < n := Nat.lt_of_lt_of_le (Nat.lt_succ_self _) hn
        rw [h.one_path (n - 1) a1 b1 e.nd.id (by omega) h1 h4 (by rw [kindOf_of (h.ris.find he)]; exact h2)]
termination_by n => n
decreasing_by omega
def Reach (t : T) (i j : Int) : Prop := ∃ q, lookF t i q = (j, 0) ∧ kindOf t j = 2
theorem Good.reach_on (h : Good t) {i : Int} {e : En} (he : e ∈ t) (hr : Reach t i e.nd.id) {n : Nm} (hn : n ∈ e.names) (hk : kindOf t n.2 = 2) : Reach t i n.2 := by
  obtain ⟨q, h1, h2⟩ := hr
  exact ⟨q ++ [n.1], h.look_on he h1 (by rw [← kindOf_of (h.ris.find he)]; exact h2) hn, hk⟩
theorem Good.reach_back (h : Good t) {i : Int} {e : En} (he : e ∈ t) {n : Nm} (hn : n ∈ e.names) (hr : Reach t i n.2) : n.2 = i ∨ Reach t i e.nd.id := by
  obtain ⟨q, h1, h2⟩ := hr
  rcases List.eq_nil_or_concat q with rfl | ⟨q1, x, rfl⟩
  · exact .inl (congrArg Prod.fst (show (i, 0) = (n.2, 0) from h1)).symm
  · rw [List.concat_eq_append] at h1
    obtain ⟨e', he', h3, h4, h5⟩ := h.look_back h1
    obtain ⟨rfl, _⟩ := h.one_name h2 he he' hn h5 rfl rfl
    exact .inr ⟨q1, h3, by rw [kindOf_of (h.ris.find he)]; exact h4⟩
theorem fold_le (t : T) (n : Nat) : ∀ (l : List Nm) (m : Nat), m ≤ l.foldl (fun m k => max m (1 + high t n k.2)) m
  | [], m => Nat.le_refl _
  | k :: l, m => by
    rw [List.foldl_cons]
    exact Nat.le_trans (Nat.le_max_left _ _) (fold_le t n l _)
theorem fold_mem (t : T) (n : Nat) : ∀ (l : List Nm) (m : Nat) (k : Nm), k ∈ l → 1 + high t n k.2 ≤ l.foldl (fun m k => max m (1 + high t n k.2)) m
  | c :: l, m, k, hk => by
    rw [List.foldl_cons]
    rcases List.mem_cons.1 hk with rfl | hk
    · exact Nat.le_trans (Nat.le_max_right _ _) (fold_le t n l _)
    · exact fold_mem t n l _ k hk
theorem look_high (t : T) : ∀ (n : Nat) (q : List Bs) (i j : Int), lookF t i q = (j, 0) → q.length ≤ n → q.length ≤ high t n i
  | _, [], _, _, _, _ => Nat.zero_le _
  | n + 1, x :: q, i, j, h, hl => by
    rw [lookF_cons] at h
    split at h
    · cases h
    · cases hg : get (kids t i) x with
      | none => rw [hg] at h; cases h
      | some k =>
        rw [hg] at h
        have h1 := look_high t n q k j h (by simpa using hl)
        have h2 := fold_mem t n (kids t i) 0 (x, k) (get_mem hg)
        rw [high]
        simp only [List.length_cons]
        simp only at h2
        omega
end Tr
end Go.Proofs.YtombmeppdhhjhaaGreat
