/-
  OWN WORK. Trees: a node renamed, the tree stays right: what was moved is deeper or less deep by the same number.
-/
import Derived.Test.YtombmeppdhhjhaaGreatQTrReach
namespace Go.Proofs.YtombmeppdhhjhaaGreat
open Go.RowKit
namespace Tr
variable {t : T}
theorem look_dir {i j : Int} {q : List Bs} (h : lookF t i q = (j, 0)) (hk : kindOf t j = 2) : kindOf t i = 2 := by
  cases q with
  | nil =>
    have : i = j := congrArg Prod.fst (show (i, 0) = (j, 0) from h)
    rw [this]; exact hk
  | cons x q =>
    rw [lookF_cons] at h
    split at h
    · cases h
    · rename_i h1
      exact Decidable.byContradiction h1
theorem moved_mem {d0 d i : Int} {x0 x : Bs} {e : En} (h : e ∈ put (cut t d0 x0) d x i) : ∃ e0 ∈ t, e.nd = e0.nd ∧ ∀ n ∈ e.names, (n = (x, i) ∧ e0.nd.id = d) ∨ (n ∈ e0.names ∧ ¬ (e0.nd.id = d0 ∧ n.1 = x0)) := by
  obtain ⟨e1, he1, h1⟩ := upd_mem h
  obtain ⟨e0, he0, h2⟩ := upd_mem he1
  have h0 : e1.nd = e0.nd ∧ ∀ n ∈ e1.names, n ∈ e0.names ∧ ¬ (e0.nd.id = d0 ∧ n.1 = x0) := by
    by_cases h3 : e0.nd.id = d0
    · rw [if_pos h3] at h2
      subst h2
      refine ⟨rfl, fun n hn => ?_⟩
      have h4 := List.mem_filter.1 hn
      refine ⟨h4.1, fun h5 => ?_⟩
      have := h4.2
      simp [h5.2] at this
    · rw [if_neg h3] at h2
      subst h2
      exact ⟨rfl, fun n hn => ⟨hn, fun h5 => h3 h5.1⟩⟩
  refine ⟨e0, he0, ?_⟩
  by_cases h3 : e1.nd.id = d
  · rw [if_pos h3] at h1
    subst h1
    refine ⟨h0.1, fun n hn => ?_⟩
    rcases ins_mem.1 hn with h4 | h4
    · exact .inl ⟨h4, by rw [← h0.1]; exact h3⟩
    · exact .inr (h0.2 n h4)
  · rw [if_neg h3] at h1
    subst h1
    exact ⟨h0.1, fun n hn => .inr (h0.2 n hn)⟩
open Classical in
theorem rename_good (h : Good t) (q r : List Bs) : Good (rename t q r).2 := by
  unfold rename
  split
  · exact h
  split
  · exact h
  rename_i hfr
  split
  · exact h
  rename_i hl0
  split
  · exact h
  rename_i hq0
  split
  · exact h
  rename_i hp0
  split
  · exact h
  rename_i hwi
  split
  · exact h
  split
  · exact h
  rename_i hno
  split
  · exact h
  rename_i h8
  have hl : (lookF t 0 q).2 = 0 := Decidable.byContradiction hl0
  have hp : (place t r).2.2 = 0 := Decidable.byContradiction hp0
  have hfo := formed_ok (show formed r = 0 from Decidable.byContradiction hfr)
  obtain ⟨i, hi⟩ : ∃ i, i = (lookF t 0 q).1 := ⟨_, rfl⟩
  have hlk : lookF t 0 q = (i, 0) := Prod.ext hi.symm hl
  obtain ⟨q1, x0, d0, en0, hqe, hlr0, hfd0, hkd0, hg0, hpl0⟩ := h.looked hlk hq0
  obtain ⟨r1, x, en, d, hre, hlr, hpl, hfd, hkd, hid⟩ := h.placed hp
  rw [hpl] at hno
  rw [← hi] at h8 hwi ⊢
  rw [hpl0, hpl]
  simp only at hno ⊢
  rw [kids_of hfd] at hno
  have hgn : get en.names x = none := get_no hno
  obtain ⟨hm0, hid0⟩ := find_some hfd0
  obtain ⟨hi0, hsi⟩ := h.leads en0 hm0 _ (get_mem hg0)
  simp only at hi0 hsi
  have pre1 := h.cut hfd0 hg0
  have hf' : ∃ en', find (cut t d0 x0) d = some en' ∧ en'.nd.kind = 2 ∧ get en'.names x = none := by
    unfold cut
    rw [find_upd (cut_id x0), hfd]
    refine ⟨_, rfl, ?_, ?_⟩
    · dsimp only
      split <;> exact hkd
    · dsimp only
      split
      · show get (del en.names x0) x = none
        rw [get_del]
        split
        · rfl
        · exact hgn
      · exact hgn
  obtain ⟨en', hf1, hk1, hg1⟩ := hf'
  have hxg : Pa.good x = true := hfo.2 x (by rw [hre]; simp)
  have hs1 : (find (cut t d0 x0) i).isSome = true := by unfold cut; rw [some_upd (cut_id x0)]; exact hsi
  have pre2 := pre1.put hf1 hk1 hxg hg1 hi0 hs1
  have hkinds : ∀ j, kindOf (put (cut t d0 x0) d x i) j = kindOf t j := fun j => by
    unfold put cut
    rw [kindOf_upd (put_id x i) (fun _ => rfl), kindOf_upd (cut_id x0) (fun _ => rfl)]
  obtain ⟨dep, hd0, hd⟩ := h.deep
  have hkd2 : kindOf t d = 2 := by rw [kindOf_of hfd]; exact hkd
  obtain ⟨hd8, hdr⟩ := h.place_dep ⟨hd0, hd⟩ hre hlr hkd2 hfo.1
  have hrlen : r.length = r1.length + 1 := by rw [hre, List.length_append]; rfl
  have hnr : ¬ Reach t i d := by
    rintro ⟨q2, h1, h2⟩
    have h3 : lookF t 0 (q ++ q2) = (d, 0) := by rw [lookF_app, hlk, if_neg (by simp)]; exact h1
    have h4 := h.one_path r1.length r1 (q ++ q2) d (Nat.le_refl _) hlr h3 h2
    refine hwi ⟨look_dir h1 h2, ?_⟩
    unfold within
    rw [List.isPrefixOf_iff_prefix, hre, h4, List.append_assoc]
    exact List.prefix_append _ _
  have hn0 : ¬ Reach t i 0 := by
    rintro ⟨q2, h1, h2⟩
    rcases List.eq_nil_or_concat q2 with rfl | ⟨q3, y, rfl⟩
    · exact hi0 (congrArg Prod.fst (show (i, 0) = ((0 : Int), 0) from h1))
    · rw [List.concat_eq_append] at h1
      obtain ⟨e, he, _, _, hm⟩ := h.look_back h1
      exact (h.leads e he _ hm).1 rfl
  obtain ⟨dep', hin, hout⟩ : ∃ dep' : Int → Nat, (∀ j, Reach t i j → dep' j = dep j - dep i + dep d + 1) ∧ (∀ j, ¬ Reach t i j → dep' j = dep j) := ⟨fun j => if Reach t i j then dep j - dep i + dep d + 1 else dep j, fun j h => if_pos h, fun j h => if_neg h⟩
  refine pre2.good (dep := dep') ⟨by rw [hout 0 hn0]; exact hd0, fun e he n hn => ?_⟩ fun e he hei => ?_
  · obtain ⟨e0, he0, hnd, hnm⟩ := moved_mem he
    rw [hnd, hkinds]
    rcases hnm n hn with ⟨rfl, h1⟩ | ⟨h1, h2⟩
    · rw [h1, hout d hnr]
      refine ⟨hd8, fun h3 => ?_⟩
      rw [hin i ⟨[], rfl, h3⟩]
      omega
    · obtain ⟨h3, h4⟩ := hd e0 he0 n h1
      by_cases hr : Reach t i e0.nd.id
      · obtain ⟨q2, hq2, hk2⟩ := hr
        have hki := look_dir hq2 hk2
        have h5 := h.look_dep ⟨hd0, hd⟩ q2 i hki (by rw [hq2]) (by rw [hq2]; exact hk2)
        rw [hq2] at h5
        simp only at h5
        have h6 := h.look_on he0 hq2 (by rw [← kindOf_of (h.ris.find he0)]; exact hk2) h1
        have h7 := look_high t 64 _ i n.2 h6 (by rw [List.length_append]; show _ + 1 ≤ _; omega)
        rw [List.length_append] at h7
        have h9 : q2.length + 1 ≤ high t 64 i := h7
        rw [hin e0.nd.id ⟨q2, hq2, hk2⟩]
        refine ⟨by omega, fun hkn => ?_⟩
        rw [hin n.2 (h.reach_on he0 ⟨q2, hq2, hk2⟩ h1 hkn)]
        have := h4 hkn
        omega
      · rw [hout _ hr]
        refine ⟨h3, fun hkn => ?_⟩
        rw [hout n.2 fun hrn => ?_]
        · exact h4 hkn
        · rcases h.reach_back he0 h1 hrn with h5 | h5
          · obtain ⟨h6, h7⟩ := h.one_name (by rw [← h5]; exact hkn) he0 hm0 h1 (get_mem hg0) h5 rfl
            exact h2 ⟨by rw [h6]; exact hid0, by rw [h7]⟩
          · exact hr h5
  · obtain ⟨e0, he0, hnd, _⟩ := moved_mem he
    rw [hnd] at hei ⊢
    have h1 : count (put (cut t d0 x0) d x i) i = count (cut t d0 x0) i + 1 := by
      rw [count_put pre1.rise hf1, if_pos rfl]
    have h2 : count t i = count (cut t d0 x0) i + 1 := by
      rw [count_cut h.ris hfd0 (h.each en0 hm0).rise hg0 i, if_pos rfl]
    refine ⟨?_, h.dirs e0 he0, h.shut e0 he0⟩
    have h3 := h.linked e0 he0
    rw [hei] at h3 ⊢
    rw [h1, ← h2]
    exact h3
end Tr
end Go.Proofs.YtombmeppdhhjhaaGreat
