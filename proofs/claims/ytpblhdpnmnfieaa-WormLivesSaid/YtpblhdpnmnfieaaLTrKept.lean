/-
  OWN WORK. Trees: plain mathematics: each call but Rename leaves a tree right.
-/
import Derived.Test.YtpblhdpnmnfieaaLTrStep
namespace Go.Proofs.Ytpblhdpnmnfieaa
open Go.RowKit
namespace Tr
variable {t : T}
theorem new_good : Good new := by
  have hf : flat new = [] := rfl
  refine ⟨⟨_, _, rfl, rfl, rfl⟩, List.pairwise_singleton _ _, by show 1 ≤ 64; omega, fun e he => ?_, fun e he n hm => ?_, fun e he => ?_, fun e he => ?_, fun e he => ?_, fun _ => 0, rfl, fun e he n hm => ?_⟩
  all_goals
    obtain rfl : e = fresh 0 2 := by simpa [new] using he
  · exact ⟨⟨by decide, by decide, by decide, by decide, by decide, by decide, by decide, .inr ⟨rfl, rfl, rfl, rfl⟩⟩, rfl, List.Pairwise.nil, (fun n hn => by cases hn), fun _ => rfl⟩
  · cases hm
  · unfold count; rw [hf]; rfl
  · exact fun _ => rfl
  · intro _; show (1 : Int) ≠ 0; omega
  · cases hm
theorem formed_ok {q : List Bs} (h : formed q = 0) : q.length ≤ 8 ∧ ∀ s ∈ q, Pa.good s = true := by
  unfold formed at h
  split at h
  · rename_i h1
    split at h
    · cases h
    · exact ⟨by omega, fun s hs => List.all_eq_true.1 h1 s hs⟩
  · cases h
/-- A directory is so deep as its path is long. -/
theorem Good.look_dep (h : Good t) {dep : Int → Nat} (hd : Deep dep t) : ∀ (q : List Bs) (i : Int), kindOf t i = 2 → (lookF t i q).2 = 0 → kindOf t (lookF t i q).1 = 2 → dep (lookF t i q).1 = dep i + q.length
  | [], _, _, _, _ => rfl
  | x :: q, i, hi, h0, hk => by
    rw [lookF_cons, if_neg (by rw [hi]; simp)] at h0 hk ⊢
    cases hg : get (kids t i) x with
    | none => rw [hg] at h0; cases h0
    | some j =>
      rw [hg] at h0 hk
      simp only at h0 hk ⊢
      obtain ⟨e, he, hm⟩ := kids_mem (get_mem hg)
      have h1 := hd.2 e (find_some he).1 _ hm
      rw [(find_some he).2] at h1
      have hj : kindOf t j = 2 := by
        cases q with
        | nil => exact hk
        | cons y q =>
          rw [lookF_cons] at h0
          split at h0
          · cases h0
          · rename_i h2; exact Decidable.byContradiction h2
      have ih := Good.look_dep h hd q j hj h0 hk
      have h2 := h1.2 hj
      simp only at h2
      rw [List.length_cons]
      omega
theorem Good.place_dep (h : Good t) {dep : Int → Nat} (hd : Deep dep t) {q r : List Bs} {x : Bs} {d : Int} (hq : q = r ++ [x]) (hlk : lookF t 0 r = (d, 0)) (hk : kindOf t d = 2) (h8 : q.length ≤ 8) : dep d + 1 ≤ 8 ∧ dep d = r.length := by
  obtain ⟨e0, he0, h0, _⟩ := h.zero
  have h1 := h.look_dep hd r 0 (by rw [kindOf_of he0]; exact h0) (by rw [hlk]) (by rw [hlk]; exact hk)
  rw [hlk, hd.1, Nat.zero_add] at h1
  simp only at h1
  rw [hq, List.length_append] at h8
  simp only [List.length_cons, List.length_nil] at h8
  exact ⟨by omega, h1⟩
theorem Good.free_ok (h : Good t) : ∃ k : Nat, free t = (k : Int) ∧ k ≤ t.length ∧ (∀ e ∈ t, e.nd.id ≠ free t) ∧ free t ≠ 0 := by
  obtain ⟨k, h1, h2, h3, h4, h5⟩ := freeFrom_spec t h.ris 0 fun e he => (h.each e he).nd.1
  rw [Int.zero_add] at h1
  have h6 : free t = (k : Int) := h1
  refine ⟨k, h6, h2, fun e he => by rw [h6]; have := h3 e he; omega, fun h0 => ?_⟩
  obtain ⟨r, hr, _, hr0⟩ := h.zero
  have := h3 r (find_some hr).1
  omega
/-- What is known where a place is. -/
theorem Good.placed (h : Good t) {q : List Bs} (h0 : (place t q).2.2 = 0) : ∃ r x en d, q = r ++ [x] ∧ lookF t 0 r = (d, 0) ∧ place t q = (d, x, 0) ∧ find t d = some en ∧ en.nd.kind = 2 ∧ en.nd.id = d := by
  obtain ⟨r, x, en, hq, hlk, hx, hfd, hkd, hpl⟩ := place_is h h0
  rw [hpl] at hlk hfd
  exact ⟨r, x, en, en.nd.id, hq, hlk, hpl, hfd, hkd, rfl⟩
theorem make_good (h : Good t) (q : List Bs) (kind : Int) : Good (make t q kind).2 := by
  unfold make
  split
  · exact h
  rename_i hf
  split
  · exact h
  rename_i hkd
  split
  · exact h
  rename_i hp
  split
  · exact h
  rename_i hg
  split
  · exact h
  rename_i hm
  have hf0 : formed q = 0 := Decidable.byContradiction hf
  obtain ⟨r, x, en, d, hq, hlk, hpl, hfd, hen, hid⟩ := h.placed (Decidable.byContradiction hp)
  rw [hpl] at hg ⊢
  rw [kids_of hfd] at hg
  obtain ⟨k, hk, hkl, hnew, hk0⟩ := h.free_ok
  obtain ⟨h8, hgood⟩ := formed_ok hf0
  have hgx : Pa.good x = true := hgood x (by rw [hq]; simp)
  obtain ⟨dep, hd0, hd⟩ := h.deep
  have hD : Deep dep t := ⟨hd0, hd⟩
  obtain ⟨hp8, _⟩ := h.place_dep hD hq hlk (by rw [kindOf_of hfd]; exact hen) h8
  have hkind : kind = 1 ∨ kind = 2 := by omega
  have hlt : t.length < 64 := by omega
  have hpre := h.insE (k := free t) (kind := kind) hkind hnew (by omega) (by omega) hlt
  have hdk : d ≠ free t := fun e => hnew en (find_some hfd).1 (by rw [(find_some hfd).2, e])
  have hfi := find_insE h.ris (n := fresh (free t) kind) hnew
  have hfd2 : find (insE t (fresh (free t) kind)) d = some en := by rw [hfi]; exact (if_neg hdk).trans hfd
  have hfk2 : find (insE t (fresh (free t) kind)) (free t) = some (fresh (free t) kind) := by rw [hfi]; exact if_pos rfl
  have hgn : get en.names x = none := by
    cases hh : get en.names x with
    | none => rfl
    | some j => rw [hh] at hg; exact absurd rfl hg
  have hdep2 : Deep (fun j => if j = free t then dep d + 1 else dep j) (insE t (fresh (free t) kind)) := by
    refine ⟨by show (if (0 : Int) = free t then dep d + 1 else dep 0) = 0; rw [if_neg (fun e => hk0 e.symm)]; exact hd0, fun e he n hn => ?_⟩
    rcases insE_mem.1 he with rfl | he
    · cases hn
    · have h1 := hd e he n hn
      have h2 : n.2 ≠ free t := fun e2 => by
        obtain ⟨_, h3⟩ := h.leads e he n hn
        obtain ⟨e', h4, h5⟩ := find_isSome.1 h3
        exact hnew e' h4 (by rw [h5, e2])
      have h3 : kindOf (insE t (fresh (free t) kind)) n.2 = kindOf t n.2 := by
        unfold kindOf ndOf
        rw [hfi, if_neg (show n.2 ≠ (fresh (free t) kind).nd.id from h2)]
      simp only [if_neg h2, if_neg (hnew e he), h3]
      exact h1
  refine (hpre.put hfd2 hen hgx hgn hk0 (by rw [hfk2]; rfl)).good (dep := fun j => if j = free t then dep d + 1 else dep j) (hdep2.put (by show (if d = free t then dep d + 1 else dep d) + 1 ≤ 8; rw [if_neg hdk]; exact hp8) (by intro _; show (if free t = free t then dep d + 1 else dep (free t)) = (if d = free t then dep d + 1 else dep d) + 1; rw [if_pos rfl, if_neg hdk])) fun e he hi => ?_
  have hcz : count (insE t (fresh (free t) kind)) (free t) = 0 := by
    unfold count
    rw [List.countP_eq_zero]
    intro y hy
    obtain ⟨e', he', _, hm'⟩ := flat_mem.1 hy
    rcases insE_mem.1 he' with rfl | he'
    · cases hm'
    · obtain ⟨_, h3⟩ := h.leads e' he' _ hm'
      obtain ⟨e2, h4, h5⟩ := find_isSome.1 h3
      have := hnew e2 h4
      simp only [beq_iff_eq]
      omega
  have hee : e.nd = (fresh (free t) kind).nd := by
    obtain ⟨e0, h0, rfl⟩ := upd_mem he
    have hi0 : e0.nd.id = free t := by split at hi <;> exact hi
    have he0 : e0 = fresh (free t) kind := by
      rcases insE_mem.1 h0 with h1 | h1
      · exact h1
      · exact absurd hi0 (hnew e0 h1)
    subst he0
    split <;> rfl
  rw [hee]
  refine ⟨?_, fun _ => rfl, fun _ => by show (1 : Int) ≠ 0; omega⟩
  show (count _ (free t) : Int) + (if free t = 0 then 1 else 0) = 1
  rw [count_put hpre.rise hfd2, hcz, if_pos rfl, if_neg hk0]
  rfl
theorem append_good (h : Good t) (i : Int) (b : Bs) : Good (append t i b).2 := by
  unfold append
  split
  · exact h
  rename_i hf
  split
  · exact h
  split
  · exact h
  rename_i hs
  refine h.turn (fun _ => rfl) (fun _ => rfl) (fun _ => rfl) (fun _ => rfl) fun e he => ?_
  have h1 := h.each e (find_some he).1
  have hk : e.nd.kind = 1 := by
    rcases h.kind (find_some he).1 with h2 | h2
    · exact h2
    · rcases file_cases t i with ⟨h3, _⟩ | ⟨h3, _⟩ | ⟨_, e2, h4, h5⟩
      · exact absurd (by rw [h3]; simp) hf
      · exact absurd (by rw [h3]; simp) hf
      · rw [he] at h4; injection h4 with h4; rw [← h4] at h5; exact absurd h2 h5
  rw [ndOf_of he] at hs
  have hsz := h1.size
  refine ⟨⟨⟨h1.nd.1, h1.nd.2.1, h1.nd.2.2.1, h1.nd.2.2.2.1, ?_, ?_, h1.nd.2.2.2.2.2.2.1, .inl hk⟩, rfl, h1.rise, h1.good, h1.file⟩, h.shut e (find_some he).1⟩
  · show (0 : Int) ≤ ((e.data ++ b).length : Nat); omega
  · show (((e.data ++ b).length : Nat) : Int) ≤ 4096
    rw [List.length_append]; omega
theorem file_kind (h : Good t) {i : Int} (hf : ¬ file t i ≠ 0) {e : En} (he : find t i = some e) : e.nd.kind = 1 := by
  rcases h.kind (find_some he).1 with h2 | h2
  · exact h2
  · rcases file_cases t i with ⟨h3, _⟩ | ⟨h3, _⟩ | ⟨_, e2, h4, h5⟩
    · exact absurd (by rw [h3]; simp) hf
    · exact absurd (by rw [h3]; simp) hf
    · rw [he] at h4; injection h4 with h4; rw [← h4] at h5; exact absurd h2 h5
theorem file_has {i : Int} (hf : ¬ file t i ≠ 0) : ∃ e, find t i = some e := by
  rcases file_cases t i with ⟨h3, _⟩ | ⟨h3, _⟩ | ⟨_, e2, h4, _⟩
  · exact absurd (by rw [h3]; simp) hf
  · exact absurd (by rw [h3]; simp) hf
  · exact ⟨e2, h4⟩
theorem keep_good (h : Good t) (i : Int) (u : Nat) : Good (keep t i u).2 := by
  unfold keep
  split
  · exact h
  rename_i hf
  split
  · exact h
  split
  · exact h
  split
  · exact h
  rename_i hu
  refine h.turn (fun _ => rfl) (fun _ => rfl) (fun _ => rfl) (fun _ => rfl) fun e he => ?_
  have h1 := h.each e (find_some he).1
  exact ⟨⟨⟨h1.nd.1, h1.nd.2.1, h1.nd.2.2.1, h1.nd.2.2.2.1, h1.nd.2.2.2.2.1, h1.nd.2.2.2.2.2.1, by show u ≤ 1099511627776; omega, .inl (show e.nd.kind = 1 from file_kind h hf he)⟩, h1.size, h1.rise, h1.good, h1.file⟩, h.shut e (find_some he).1⟩
theorem remove_upd (i : Int) (f : En → En) (hf : ∀ e, (f e).nd.id = e.nd.id) : remove (upd t i f) i = remove t i := by
  unfold remove upd
  rw [List.filter_map]
  have h1 : ((fun e : En => !(e.nd.id == i)) ∘ fun e => if (e.nd.id == i) = true then f e else e) = fun e => !(e.nd.id == i) := by
    funext e
    simp only [Function.comp]
    split <;> simp_all
  rw [h1]
  conv => rhs; rw [← List.map_id (List.filter (fun e => !(e.nd.id == i)) t)]
  apply List.map_congr_left
  intro e he
  have := (List.mem_filter.1 he).2
  rw [if_neg (by simpa using this)]; rfl
theorem Good.gone (h : Good t) {i : Int} {e : En} (he : find t i = some e) (hk : e.nd.kind = 1) (hl : e.nd.links = 0) : Good (remove t i) := by
  obtain ⟨dep, hd⟩ := h.deep
  obtain ⟨hm, hid⟩ := find_some he
  have h1 := h.linked e hm
  have hi0 : i ≠ 0 := fun e0 => by
    rw [hl, hid, if_pos e0] at h1; omega
  refine (h.pre i).remove hd hi0 (h.file_kids (by rw [kindOf_of he, hk]; omega)) (count_zero ?_)
  rw [hl, hid, if_neg hi0] at h1
  omega
theorem seal_good (h : Good t) (i : Int) (u : Nat) : Good (seal_ t i u).2 := by
  unfold seal_
  split
  · exact h
  rename_i hf
  split
  · exact h
  split
  · exact h
  rename_i hu
  obtain ⟨e, he⟩ := file_has hf
  rw [ndOf_of he]
  split
  · rename_i hl
    show Good (remove (upd t i (shutE u)) i)
    rw [remove_upd i (shutE u) fun _ => rfl]
    exact h.gone he (file_kind h hf he) hl
  · rename_i hl
    refine h.turn (f := shutE u) (fun _ => rfl) (fun _ => rfl) (fun _ => rfl) (fun _ => rfl) fun e2 he2 => ?_
    have h1 := h.each e2 (find_some he2).1
    rw [he] at he2
    injection he2 with he2
    subst he2
    exact ⟨⟨⟨h1.nd.1, h1.nd.2.1, h1.nd.2.2.1, h1.nd.2.2.2.1, h1.nd.2.2.2.2.1, h1.nd.2.2.2.2.2.1, by show u ≤ 1099511627776; omega, .inl (show e.nd.kind = 1 from file_kind h hf he)⟩, h1.size, h1.rise, h1.good, h1.file⟩, fun _ => hl⟩
end Tr
end Go.Proofs.Ytpblhdpnmnfieaa
