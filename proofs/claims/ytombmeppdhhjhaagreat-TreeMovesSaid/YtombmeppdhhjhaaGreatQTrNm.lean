/-
  OWN WORK. Trees: plain mathematics: a node's names: as many as its Links, each leads to it, none too deep.
-/
import Derived.Test.YtombmeppdhhjhaaGreatQTrReach
namespace Go.Proofs.YtombmeppdhhjhaaGreat
open Go.RowKit
namespace Tr
variable {t : T}
theorem inj_le {α β : Type} [DecidableEq β] (R : α → β → Prop) (hi : ∀ x x' y, R x y → R x' y → x = x') : ∀ (l : List α) (m : List β), l.Nodup → (∀ x ∈ l, ∃ y ∈ m, R x y) → l.length ≤ m.length
  | [], _, _, _ => Nat.zero_le _
  | x :: l, m, hn, he => by
    obtain ⟨y, hy, hr⟩ := he x (.head _)
    rw [List.nodup_cons] at hn
    have := inj_le R hi l (m.erase y) hn.2 fun z hz => by
      obtain ⟨u, hu, hr2⟩ := he z (.tail _ hz)
      refine ⟨u, (List.mem_erase_of_ne fun e => ?_).2 hu, hr2⟩
      subst e
      have := hi _ _ _ hr hr2
      subst this
      exact hn.1 hz
    rw [List.length_erase_of_mem hy] at this
    have h1 : 0 < m.length := List.length_pos_of_mem hy
    rw [List.length_cons]
    omega
theorem Good.path_deep (h : Good t) {dep : Int → Nat} (hd0 : dep 0 = 0) (hd : ∀ e ∈ t, ∀ n ∈ e.names, dep e.nd.id + 1 ≤ 8 ∧ (kindOf t n.2 = 2 → dep n.2 = dep e.nd.id + 1)) : ∀ (n : Nat) (q : List Bs) (j : Int), q.length = n → lookF t 0 q = (j, 0) → q.length ≤ 8 ∧ (kindOf t j = 2 → dep j = q.length)
  | 0, q, j, hn, hl => by
    obtain rfl : q = [] := List.eq_nil_of_length_eq_zero hn
    have h1 : (0, 0) = (j, 0) := hl
    injection h1 with h1
    subst h1
    exact ⟨Nat.zero_le _, fun _ => hd0⟩
  | n + 1, q, j, hn, hl => by
    rcases List.eq_nil_or_concat q with rfl | ⟨r, x, rfl⟩
    · cases hn
    · rw [List.concat_eq_append] at hn hl ⊢
      obtain ⟨e, he, h1, h2, h3⟩ := h.look_back hl
      rw [List.length_append] at hn
      have hn1 : r.length = n := by simpa using hn
      obtain ⟨k1, k2⟩ := h.path_deep hd0 hd n r e.nd.id hn1 h1
      have k3 := k2 (by rw [kindOf_of (h.ris.find he)]; exact h2)
      obtain ⟨k4, k5⟩ := hd e he _ h3
      rw [List.length_append]
      refine ⟨by simp; omega, fun hk => ?_⟩
      rw [k5 hk]
      simp
      omega
theorem Good.path_le (h : Good t) {q : List Bs} {j : Int} (hl : lookF t 0 q = (j, 0)) : q.length ≤ 8 := by
  obtain ⟨dep, hd0, hd⟩ := h.deep
  exact (h.path_deep hd0 hd _ q j rfl hl).1
theorem Good.path_good (h : Good t) : ∀ (n : Nat) (q : List Bs) (j : Int), q.length = n → lookF t 0 q = (j, 0) → ∀ x ∈ q, Pa.good x = true
  | 0, q, j, hn, hl => by
    obtain rfl : q = [] := List.eq_nil_of_length_eq_zero hn
    intro x hx
    cases hx
  | n + 1, q, j, hn, hl => by
    rcases List.eq_nil_or_concat q with rfl | ⟨r, x, rfl⟩
    · cases hn
    · rw [List.concat_eq_append] at hn hl ⊢
      obtain ⟨e, he, h1, h2, h3⟩ := h.look_back hl
      rw [List.length_append] at hn
      have hn1 : r.length = n := by simpa using hn
      intro y hy
      rcases List.mem_append.1 hy with hy | hy
      · exact h.path_good n r e.nd.id hn1 h1 y hy
      · rw [List.mem_singleton] at hy
        subst hy
        exact (h.each e he).good _ h3
theorem Good.path_formed (h : Good t) {q : List Bs} {j : Int} (hl : lookF t 0 q = (j, 0)) : formed q = 0 := by
  unfold formed
  rw [if_pos (List.all_eq_true.2 (h.path_good _ q j rfl hl)), if_neg (by have := h.path_le hl; omega)]
theorem Good.path_look (h : Good t) {q : List Bs} {j : Int} (hl : lookF t 0 q = (j, 0)) : look t q = (j, 0) := by
  unfold look
  rw [if_neg (by rw [h.path_formed hl]; simp), hl]
theorem Good.walk_mem (h : Good t) : ∀ (n : Nat) (i : Int) (p q : List Bs) (k : Int), (q, k) ∈ walk t n i p ↔ ∃ r, q = p ++ r ∧ r ≠ [] ∧ r.length ≤ n ∧ lookF t i r = (k, 0)
  | 0, i, p, q, k => by
    constructor
    · intro h1; cases h1
    · rintro ⟨r, _, h1, h2, _⟩
      exact absurd (List.eq_nil_of_length_eq_zero (by omega)) h1
  | n + 1, i, p, q, k => by
    show (q, k) ∈ (kids t i).flatMap _ ↔ _
    rw [List.mem_flatMap]
    constructor
    · rintro ⟨⟨x, m⟩, hm, h1⟩
      obtain ⟨en, hen, hmem⟩ := kids_mem hm
      have hk2 : kindOf t i = 2 := Decidable.byContradiction fun hne => by rw [h.file_kids hne] at hm; cases hm
      have hstep : ∀ r, lookF t i (x :: r) = lookF t m r := fun r => by
        rw [lookF_cons, if_neg (by simp [hk2]), get_of_mem (h.rises i) hm]
      rcases List.mem_cons.1 h1 with h1 | h1
      · injection h1 with h2 h3
        subst h2 h3
        exact ⟨[x], rfl, by simp, by simp, by rw [hstep]; rfl⟩
      · obtain ⟨r, h2, h3, h4, h5⟩ := (h.walk_mem n m (p ++ [x]) q k).1 h1
        exact ⟨x :: r, by rw [h2]; simp, by simp, by simp; omega, by rw [hstep]; exact h5⟩
    · rintro ⟨r, h2, h3, h4, h5⟩
      cases r with
      | nil => exact absurd rfl h3
      | cons x r =>
        rw [lookF_cons] at h5
        split at h5
        · cases h5
        · cases hg : get (kids t i) x with
          | none => rw [hg] at h5; cases h5
          | some m =>
            rw [hg] at h5
            replace h5 : lookF t m r = (k, 0) := h5
            refine ⟨(x, m), get_mem hg, ?_⟩
            by_cases hr : r = []
            · subst hr
              have h6 : (m, 0) = (k, 0) := h5
              injection h6 with h6
              subst h6 h2
              exact .head _
            · refine .tail _ ((h.walk_mem n m (p ++ [x]) q k).2 ⟨r, by rw [h2]; simp, hr, by simp at h4; omega, h5⟩)
theorem Good.walk_nodup (h : Good t) : ∀ (n : Nat) (i : Int) (p : List Bs), (walk t n i p).Pairwise fun a b => a.1 ≠ b.1
  | 0, _, _ => List.Pairwise.nil
  | n + 1, i, p => by
    show ((kids t i).flatMap _).Pairwise _
    have key : ∀ l : List Nm, Rise l → (∀ m ∈ l, m ∈ kids t i) → (l.flatMap fun k => (p ++ [k.1], k.2) :: walk t n k.2 (p ++ [k.1])).Pairwise fun a b => a.1 ≠ b.1 := by
      intro l
      induction l with
      | nil => intro _ _; exact List.Pairwise.nil
      | cons m l ih =>
        intro hr hm
        obtain ⟨hr1, hr2⟩ := List.pairwise_cons.1 hr
        rw [List.flatMap_cons, List.pairwise_append]
        refine ⟨List.pairwise_cons.2 ⟨fun b hb => ?_, h.walk_nodup n m.2 _⟩, ih hr2 fun x hx => hm x (.tail _ hx), fun a ha b hb => ?_⟩
        · obtain ⟨r, h2, h3, _⟩ := (h.walk_mem n m.2 (p ++ [m.1]) b.1 b.2).1 hb
          show p ++ [m.1] ≠ b.1
          rw [h2]
          intro e
          have := congrArg List.length e
          simp only [List.length_append] at this
          exact h3 (List.eq_nil_of_length_eq_zero (by omega))
        · have ha1 : ∃ r, a.1 = p ++ (m.1 :: r) := by
            rcases List.mem_cons.1 ha with ha | ha
            · exact ⟨[], by rw [ha]⟩
            · obtain ⟨r, h2, _⟩ := (h.walk_mem n m.2 (p ++ [m.1]) a.1 a.2).1 ha
              exact ⟨r, by rw [h2]; simp⟩
          obtain ⟨m2, hm2, hb⟩ := List.mem_flatMap.1 hb
          have hb1 : ∃ r, b.1 = p ++ (m2.1 :: r) := by
            rcases List.mem_cons.1 hb with hb | hb
            · exact ⟨[], by rw [hb]⟩
            · obtain ⟨r, h2, _⟩ := (h.walk_mem n m2.2 (p ++ [m2.1]) b.1 b.2).1 hb
              exact ⟨r, by rw [h2]; simp⟩
          obtain ⟨ra, ha1⟩ := ha1
          obtain ⟨rb, hb1⟩ := hb1
          rw [ha1, hb1]
          intro e
          have := List.append_cancel_left e
          injection this with this _
          have hl := hr1 m2 hm2
          exact less_ne hl this
    exact key _ (h.rises i) fun m hm => hm
theorem Good.dir_path (h : Good t) {dep : Int → Nat} (hd : ∀ e ∈ t, ∀ n ∈ e.names, dep e.nd.id + 1 ≤ 8 ∧ (kindOf t n.2 = 2 → dep n.2 = dep e.nd.id + 1)) : ∀ (n : Nat) (e : En), e ∈ t → e.nd.kind = 2 → dep e.nd.id ≤ n → ∃ r, lookF t 0 r = (e.nd.id, 0)
  | n, e, he, hk, hn => by
    by_cases h0 : e.nd.id = 0
    · exact ⟨[], by rw [h0]; rfl⟩
    · have h1 := h.linked e he
      rw [h.dirs e he hk, if_neg h0] at h1
      have h2 : 0 < count t e.nd.id := by omega
      unfold count at h2
      obtain ⟨x, hx, hx2⟩ := List.countP_pos_iff.1 h2
      have hx2 : x.2.2 = e.nd.id := by simpa using hx2
      obtain ⟨e2, he2, h3, h4⟩ := flat_mem.1 hx
      have hk2 : e2.nd.kind = 2 := by
        rcases h.kind he2 with h5 | h5
        · rw [(h.each e2 he2).file h5] at h4; cases h4
        · exact h5
      obtain ⟨_, h6⟩ := hd e2 he2 _ h4
      have h7 := h6 (by rw [hx2, kindOf_of (h.ris.find he)]; exact hk)
      rw [hx2] at h7
      cases n with
      | zero => omega
      | succ n =>
        obtain ⟨r, hr⟩ := h.dir_path hd n e2 he2 hk2 (by omega)
        have := h.look_on he2 hr hk2 h4
        rw [hx2] at this
        exact ⟨_, this⟩
theorem Good.path_of (h : Good t) {e : En} (he : e ∈ t) (hk : e.nd.kind = 2) : ∃ r, lookF t 0 r = (e.nd.id, 0) := by
  obtain ⟨dep, _, hd⟩ := h.deep
  exact h.dir_path hd _ e he hk (Nat.le_refl _)
def paths (t : T) : List (List Bs × Int) := walk t 64 0 []
theorem Good.paths_mem (h : Good t) (q : List Bs) (k : Int) : (q, k) ∈ paths t ↔ q ≠ [] ∧ lookF t 0 q = (k, 0) := by
  unfold paths
  rw [h.walk_mem]
  constructor
  · rintro ⟨r, h1, h2, h3, h4⟩
    rw [List.nil_append] at h1
    subst h1
    exact ⟨h2, h4⟩
  · rintro ⟨h1, h2⟩
    exact ⟨q, rfl, h1, by have := h.path_le h2; omega, h2⟩
def EndsIn (t : T) (a : List Bs × Int) (x : Int × Nm) : Prop := ∃ r, a.1 = r ++ [x.2.1] ∧ lookF t 0 r = (x.1, 0) ∧ a.2 = x.2.2 ∧ kindOf t x.1 = 2
theorem Good.ends_one (h : Good t) (a b : List Bs × Int) (x : Int × Nm) (ha : EndsIn t a x) (hb : EndsIn t b x) : a = b := by
  obtain ⟨r, h1, h2, h3, h4⟩ := ha
  obtain ⟨s, k1, k2, k3, _⟩ := hb
  have := h.one_path _ r s x.1 (Nat.le_refl _) h2 k2 h4
  subst this
  exact Prod.ext (h1.trans k1.symm) (h3.trans k3.symm)
theorem Good.ends_two (x y : Int × Nm) (a : List Bs × Int) (ha : EndsIn t a x) (hb : EndsIn t a y) : x = y := by
  obtain ⟨r, h1, h2, h3, _⟩ := ha
  obtain ⟨s, k1, k2, k3, _⟩ := hb
  rw [h1] at k1
  have h5 := List.append_inj' k1 rfl
  obtain ⟨rfl, h6⟩ := h5
  injection h6 with h6 _
  rw [h2] at k2
  injection k2 with k2
  exact Prod.ext k2 (Prod.ext h6 (h3.symm.trans k3))
theorem Good.ends_of (h : Good t) {a : List Bs × Int} (ha : a ∈ paths t) : ∃ x ∈ flat t, EndsIn t a x := by
  obtain ⟨q, k⟩ := a
  obtain ⟨h1, h2⟩ := (h.paths_mem q k).1 ha
  rcases List.eq_nil_or_concat q with rfl | ⟨r, x, rfl⟩
  · exact absurd rfl h1
  · rw [List.concat_eq_append] at h2 ⊢
    obtain ⟨e, he, h3, h4, h5⟩ := h.look_back h2
    exact ⟨(e.nd.id, (x, k)), flat_mem.2 ⟨e, he, rfl, h5⟩, r, rfl, h3, rfl, by rw [kindOf_of (h.ris.find he)]; exact h4⟩
theorem Good.ends_to (h : Good t) {x : Int × Nm} (hx : x ∈ flat t) : ∃ a ∈ paths t, EndsIn t a x := by
  obtain ⟨e, he, h1, h2⟩ := flat_mem.1 hx
  have hk : e.nd.kind = 2 := by
    rcases h.kind he with h5 | h5
    · rw [(h.each e he).file h5] at h2; cases h2
    · exact h5
  obtain ⟨r, hr⟩ := h.path_of he hk
  have h3 := h.look_on he hr hk h2
  refine ⟨(r ++ [x.2.1], x.2.2), (h.paths_mem _ _).2 ⟨by simp, h3⟩, r, rfl, by rw [← h1]; exact hr, rfl, by rw [← h1, kindOf_of (h.ris.find he)]; exact hk⟩
theorem Good.paths_nodup (h : Good t) : (paths t).Nodup := by
  have := h.walk_nodup 64 0 []
  exact this.imp (S := fun a b => a ≠ b) fun {a b} (hne : a.1 ≠ b.1) (e : a = b) => hne (congrArg Prod.fst e)
theorem Good.paths_few (h : Good t) : (paths t).length ≤ 4194240 := by
  have := inj_le (EndsIn t) h.ends_one (paths t) (flat t) h.paths_nodup fun a ha => h.ends_of ha
  have := h.flat_le
  omega
theorem flat_nodup (h : Good t) : (flat t).Nodup := by
  have key : ∀ u : T, Ris u → (∀ e ∈ u, Rise e.names) → (flat u).Nodup := by
    intro u
    induction u with
    | nil => intro _ _; exact List.Pairwise.nil
    | cons e u ih =>
      intro hr hn
      obtain ⟨hr1, hr2⟩ := List.pairwise_cons.1 hr
      have : flat (e :: u) = (e.names.map fun n => (e.nd.id, n)) ++ flat u := by simp [flat]
      rw [this]
      refine List.pairwise_append.2 ⟨?_, ih hr2 fun m hm => hn m (.tail _ hm), fun a ha b hb => ?_⟩
      · rw [List.pairwise_map]
        refine List.Pairwise.imp ?_ (show e.names.Pairwise fun a b => less a.1 b.1 = true from hn e (.head _))
        intro a b hl e9
        have e9 : ((e.nd.id, a) : Int × Nm) = (e.nd.id, b) := e9
        injection e9 with _ e9
        exact less_ne hl (by rw [e9])
      · obtain ⟨n, _, rfl⟩ := List.mem_map.1 ha
        obtain ⟨e2, he2, h1, _⟩ := flat_mem.1 hb
        intro e9
        have := hr1 e2 he2
        rw [← e9] at h1
        have h1 : e2.nd.id = e.nd.id := h1
        omega
  exact key t h.ris fun e he => (h.each e he).rise
def pathsTo (t : T) (i : Int) : List (List Bs) := (if i = 0 then [[]] else []) ++ ((paths t).filter fun q => q.2 == i).map (·.1)
theorem Good.pathsTo_mem (h : Good t) {i : Int} {q : List Bs} : q ∈ pathsTo t i ↔ lookF t 0 q = (i, 0) := by
  unfold pathsTo
  rw [List.mem_append, List.mem_map]
  constructor
  · rintro (h1 | ⟨⟨q', k⟩, h1, rfl⟩)
    · by_cases h0 : i = 0
      · rw [if_pos h0, List.mem_singleton] at h1
        subst h1 h0
        rfl
      · rw [if_neg h0] at h1; cases h1
    · obtain ⟨h2, h3⟩ := List.mem_filter.1 h1
      have h3 : k = i := by simpa using h3
      subst h3
      exact ((h.paths_mem q' k).1 h2).2
  · intro h1
    by_cases hq : q = []
    · subst hq
      have h2 : (0, 0) = (i, 0) := h1
      injection h2 with h2
      left
      rw [if_pos h2.symm]
      exact .head _
    · right
      exact ⟨(q, i), List.mem_filter.2 ⟨(h.paths_mem q i).2 ⟨hq, h1⟩, by simp⟩, rfl⟩
theorem Good.pathsTo_length (h : Good t) {e : En} (he : e ∈ t) : ((pathsTo t e.nd.id).length : Int) = e.nd.links := by
  have hn1 : ((paths t).filter fun q => q.2 == e.nd.id).Nodup := h.paths_nodup.filter _
  have hn2 : ((flat t).filter fun x => x.2.2 == e.nd.id).Nodup := (flat_nodup h).filter _
  have h1 := inj_le (EndsIn t) h.ends_one _ ((flat t).filter fun x => x.2.2 == e.nd.id) hn1 fun a ha => by
    obtain ⟨h2, h3⟩ := List.mem_filter.1 ha
    obtain ⟨x, hx, hr⟩ := h.ends_of h2
    have h3 : a.2 = e.nd.id := by simpa using h3
    refine ⟨x, List.mem_filter.2 ⟨hx, ?_⟩, hr⟩
    obtain ⟨_, _, _, h4, _⟩ := hr
    simp [← h4, h3]
  have h2 := inj_le (fun x a => EndsIn t a x) Good.ends_two _ ((paths t).filter fun q => q.2 == e.nd.id) hn2 fun x hx => by
    obtain ⟨h2, h3⟩ := List.mem_filter.1 hx
    obtain ⟨a, ha, hr⟩ := h.ends_to h2
    have h3 : x.2.2 = e.nd.id := by simpa using h3
    refine ⟨a, List.mem_filter.2 ⟨ha, ?_⟩, hr⟩
    obtain ⟨_, _, _, h4, _⟩ := hr
    simp [h4, h3]
  have h3 := h.linked e he
  have h4 : count t e.nd.id = ((flat t).filter fun x => x.2.2 == e.nd.id).length := List.countP_eq_length_filter
  unfold pathsTo
  rw [List.length_append, List.length_map]
  by_cases h0 : e.nd.id = 0
  · rw [if_pos h0] at h3 ⊢
    simp only [List.length_cons, List.length_nil]
    omega
  · rw [if_neg h0] at h3 ⊢
    simp only [List.length_nil]
    omega
/-! Nodes ahead of a number. -/
def below (t : T) (i : Int) : Nat := t.countP fun e => decide (e.nd.id < i)
theorem below_zero (h : Good t) : below t 0 = 0 := by
  unfold below
  rw [List.countP_eq_zero]
  intro e he
  have := (h.each e he).nd.1
  simp
  omega
theorem below_all (h : Good t) {i : Int} (hi : 65536 ≤ i) : below t i = t.length := by
  unfold below
  rw [List.countP_eq_length]
  intro e he
  have := (h.each e he).nd.2.1
  simp
  omega
theorem below_le (t : T) (i : Int) : below t i ≤ t.length := List.countP_le_length
theorem below_next (h : Good t) (i : Int) : below t (i + 1) = below t i + (if (find t i).isSome then 1 else 0) := by
  have key : ∀ u : T, Ris u → below u (i + 1) = below u i + (if (find u i).isSome then 1 else 0) := by
    intro u
    induction u with
    | nil => intro _; rfl
    | cons e u ih =>
      intro hr
      obtain ⟨hr1, hr2⟩ := List.pairwise_cons.1 hr
      have h1 := ih hr2
      unfold below at h1 ⊢
      rw [List.countP_cons, List.countP_cons, find_cons]
      by_cases he : e.nd.id = i
      · have hno : find u i = none := find_none.2 fun m hm => by have := hr1 m hm; omega
        rw [hno] at h1
        rw [if_pos he]
        have h3 : decide (e.nd.id < i + 1) = true := by simp; omega
        have h4 : decide (e.nd.id < i) = false := by simp; omega
        rw [h3, h4]
        simp only [Option.isSome_some, Option.isSome_none, if_true, Bool.false_eq_true, if_false, Nat.add_zero] at h1 ⊢
        rw [h1]
      · rw [if_neg he]
        have h2 : (decide (e.nd.id < i + 1)) = decide (e.nd.id < i) := by
          by_cases h3 : e.nd.id < i
          · simp [h3]; omega
          · simp [h3]; omega
        rw [h2]
        omega
  exact key t h.ris
end Tr
end Go.Proofs.YtombmeppdhhjhaaGreat
