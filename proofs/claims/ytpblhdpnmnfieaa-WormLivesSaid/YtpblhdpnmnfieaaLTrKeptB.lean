/-
  OWN WORK. Trees: plain mathematics: Link, Unlink, Rmdir, Drop leave a tree right.
-/
import Derived.Test.YtpblhdpnmnfieaaLTrKept
namespace Go.Proofs.Ytpblhdpnmnfieaa
open Go.RowKit
namespace Tr
variable {t : T}
theorem get_no {l : List Nm} {x : Bs} (h : ¬ (get l x).isSome = true) : get l x = none := by
  cases hh : get l x with
  | none => rfl
  | some j => rw [hh] at h; exact absurd rfl h
/-- The last name of a path that is there. -/
theorem Good.looked (h : Good t) {q : List Bs} {i : Int} (h0 : lookF t 0 q = (i, 0)) (hq : q ≠ []) : ∃ r x d en, q = r ++ [x] ∧ lookF t 0 r = (d, 0) ∧ find t d = some en ∧ en.nd.kind = 2 ∧ get en.names x = some i ∧ place t q = (d, x, 0) := by
  have hqe := (List.dropLast_concat_getLast hq).symm
  obtain ⟨r, hr⟩ : ∃ r, r = q.dropLast := ⟨_, rfl⟩
  obtain ⟨x, hx⟩ : ∃ x, x = q.getLast hq := ⟨_, rfl⟩
  rw [← hr, ← hx] at hqe
  have h1 := h0
  rw [hqe, lookF_app] at h1
  split at h1
  · rename_i h2
    rw [h1] at h2
    exact absurd rfl h2
  · rename_i h2
    have h3 : (lookF t 0 r).2 = 0 := Decidable.byContradiction h2
    obtain ⟨d, hd⟩ : ∃ d, d = (lookF t 0 r).1 := ⟨_, rfl⟩
    rw [← hd, lookF_cons] at h1
    split at h1
    · simp at h1
    · rename_i h4
      have hk : kindOf t d = 2 := Decidable.byContradiction h4
      obtain ⟨en, hen⟩ := h.has hk
      rw [kids_of hen] at h1
      cases hg : get en.names x with
      | none => rw [hg] at h1; simp at h1
      | some j =>
        rw [hg] at h1
        have hj : j = i := by
          have h5 : (j, 0) = (i, 0) := h1
          exact congrArg Prod.fst h5
        have hlr : lookF t 0 r = (d, 0) := Prod.ext hd.symm h3
        refine ⟨r, x, d, en, hqe, hlr, hen, by rw [← kindOf_of hen]; exact hk, by rw [hj] at hg; exact hg, ?_⟩
        unfold place
        rw [if_neg hq, ← hr, hlr, if_neg (by simp), if_neg (by simpa using hk), List.getLastD_eq_getLast?, List.getLast?_eq_some_getLast hq, ← hx]
        rfl
theorem link_good (h : Good t) (q r : List Bs) : Good (link t q r).2 := by
  unfold link
  split
  · exact h
  split
  · exact h
  rename_i hfr
  split
  · exact h
  rename_i hl0
  split
  · exact h
  rename_i hk
  split
  · exact h
  rename_i hp
  split
  · exact h
  rename_i hg
  split
  · exact h
  rename_i h64
  have hfr0 : formed r = 0 := Decidable.byContradiction hfr
  obtain ⟨r1, x, en, d, hq, hlk, hpl, hfd, hen, hid⟩ := h.placed (Decidable.byContradiction hp)
  obtain ⟨i, hi⟩ : ∃ i, i = (lookF t 0 q).1 := ⟨_, rfl⟩
  obtain ⟨ef, hef⟩ := Option.isSome_iff_exists.1 (h.look_is (Decidable.byContradiction hl0))
  rw [hpl] at hg ⊢
  rw [← hi] at hk h64 hef ⊢
  rw [kids_of hfd] at hg
  rw [kindOf_of hef] at hk
  rw [ndOf_of hef] at h64
  obtain ⟨hfm, hfid⟩ := find_some hef
  have hk1 : ef.nd.kind = 1 := (h.kind hfm).elim id fun k => absurd k hk
  obtain ⟨h8, hgood⟩ := formed_ok hfr0
  have hgx : Pa.good x = true := hgood x (by rw [hq]; simp)
  obtain ⟨dep, hD⟩ : ∃ dep, Deep dep t := h.deep
  obtain ⟨hp8, _⟩ := h.place_dep hD hq hlk (by rw [kindOf_of hfd]; exact hen) h8
  have hi0 : i ≠ 0 := fun e => by
    obtain ⟨r0, h1, h2, _⟩ := h.zero
    rw [e, h1] at hef
    injection hef with hef
    rw [← hef] at hk; exact hk h2
  have hdi : i ≠ d := fun e => by
    rw [e, hfd] at hef
    injection hef with hef
    rw [← hef] at hk; exact hk hen
  have hpre := (h.pre i).put hfd hen hgx (get_no hg) hi0 (by rw [hef]; rfl)
  have hdp := hD.put (t := t) (x := x) (k := i) hp8 (fun h2 => absurd (by rw [kindOf_of hef] at h2; exact h2) hk)
  have hlinked := h.linked ef hfm
  rw [hfid, if_neg hi0] at hlinked
  have hsh := h.shut ef hfm
  have h0l := (h.each ef hfm).nd.2.2.1
  refine hpre.more hdp (ek := ef) ?_ hk1 ?_ hi0 (by omega) (fun hs => by have := hsh hs; omega)
  · unfold Tr.put
    rw [find_upd (put_id x i), hef]
    simp only [Option.map_some, if_neg hdi]
  · rw [count_put h.ris hfd, if_pos rfl]
    omega
/-- What is known behind a name is cut. -/
theorem Good.cut_facts (h : Good t) {d i : Int} {en : En} {x : Bs} (hfd : find t d = some en) (hg : get en.names x = some i) : i ≠ 0 ∧ ∃ ei, find t i = some ei ∧ (count (Tr.cut t d x) i : Int) = ei.nd.links - 1 := by
  obtain ⟨hdm, hdid⟩ := find_some hfd
  obtain ⟨h1, h2⟩ := h.leads en hdm _ (get_mem hg)
  obtain ⟨ei, hei⟩ := Option.isSome_iff_exists.1 h2
  refine ⟨h1, ei, hei, ?_⟩
  obtain ⟨hm, hid⟩ := find_some hei
  have h3 := h.linked ei hm
  have h4 := count_cut h.ris hfd (h.each en hdm).rise hg i
  simp only at hid h1
  rw [hid, if_neg h1] at h3
  rw [if_pos rfl] at h4
  omega
theorem unlink_good (h : Good t) (q : List Bs) : Good (unlink t q).2 := by
  unfold unlink
  split
  · exact h
  split
  · exact h
  rename_i hl0
  split
  · exact h
  rename_i hk
  have hl : (lookF t 0 q).2 = 0 := Decidable.byContradiction hl0
  obtain ⟨i, hi⟩ : ∃ i, i = (lookF t 0 q).1 := ⟨_, rfl⟩
  obtain ⟨ef, hef⟩ := Option.isSome_iff_exists.1 (h.look_is hl)
  have hlk : lookF t 0 q = (i, 0) := Prod.ext hi.symm hl
  rw [← hi] at hk hef ⊢
  rw [kindOf_of hef] at hk
  rw [ndOf_of hef]
  have hq : q ≠ [] := fun e => by
    rw [e] at hlk
    obtain ⟨r0, h1, h2, _⟩ := h.zero
    have e0 : (0 : Int) = i := congrArg Prod.fst (show ((0 : Int), 0) = (i, 0) from hlk)
    rw [← e0, h1] at hef
    injection hef with hef
    rw [← hef] at hk; exact hk h2
  obtain ⟨r, x, d, en, hqe, hlr, hfd, hen, hg, hpl⟩ := h.looked hlk hq
  obtain ⟨hi0, ei, hei, hcount⟩ := h.cut_facts hfd hg
  obtain rfl : ei = ef := by rw [hef] at hei; injection hei with hei; exact hei.symm
  obtain ⟨hfm, hfid⟩ := find_some hef
  have hk1 : ei.nd.kind = 1 := (h.kind hfm).elim id fun k => absurd k hk
  obtain ⟨dep, hD⟩ : ∃ dep, Deep dep t := h.deep
  have hdi : i ≠ d := fun e => by
    rw [e, hfd] at hef
    injection hef with hef
    rw [← hef] at hk; exact hk hen
  have hfi : find (cut t d x) i = some ei := by
    unfold Tr.cut
    rw [find_upd (cut_id x), hef]
    simp only [Option.map_some, if_neg hdi]
  have hpre := h.cut hfd hg
  have hu : unlinked t q = more (cut t d x) i (-1) := by
    unfold unlinked
    rw [hpl, ← hi]
  have h0 := (h.each ei hfm).nd
  split
  · rename_i hl1
    show Good (remove (unlinked t q) i)
    rw [hu]
    have hru : remove (more (cut t d x) i (-1)) i = remove (cut t d x) i := remove_upd i (fun e => { e with nd := { e.nd with links := e.nd.links + (-1) } }) fun _ => rfl
    rw [hru]
    refine hpre.remove (hD.cut d x) hi0 (by rw [kids_of hfi]; exact (h.each ei hfm).file hk1) (count_zero (by omega))
  · rename_i hl1
    show Good (unlinked t q)
    rw [hu]
    refine hpre.more (hD.cut d x) hfi hk1 (by omega) hi0 (by have := h0.2.2.2.1; omega) (fun hs hz => hl1 ⟨by omega, hs⟩)
theorem rmdir_good (h : Good t) (q : List Bs) : Good (rmdir t q).2 := by
  unfold rmdir
  split
  · exact h
  split
  · exact h
  rename_i hl0
  split
  · exact h
  rename_i hk
  split
  · exact h
  rename_i hq
  split
  · exact h
  rename_i hkids
  have hl : (lookF t 0 q).2 = 0 := Decidable.byContradiction hl0
  obtain ⟨i, hi⟩ : ∃ i, i = (lookF t 0 q).1 := ⟨_, rfl⟩
  have hlk : lookF t 0 q = (i, 0) := Prod.ext hi.symm hl
  obtain ⟨r, x, d, en, hqe, hlr, hfd, hen, hg, hpl⟩ := h.looked hlk hq
  obtain ⟨hi0, ei, hei, hcount⟩ := h.cut_facts hfd hg
  rw [← hi] at hk hkids ⊢
  rw [hpl]
  have hki : kindOf t i = 2 := Decidable.byContradiction hk
  have hkid : kids t i = [] := Decidable.byContradiction hkids
  rw [kindOf_of hei] at hki
  rw [kids_of hei] at hkid
  obtain ⟨hfm, hfid⟩ := find_some hei
  have hl1 := h.dirs ei hfm hki
  obtain ⟨dep, hD⟩ : ∃ dep, Deep dep t := h.deep
  have hdi : i ≠ d := fun e => by
    rw [e, hfd] at hei
    injection hei with hei
    rw [← hei] at hkid
    rw [hkid] at hg; cases hg
  have hfi : find (cut t d x) i = some ei := by
    unfold Tr.cut
    rw [find_upd (cut_id x), hei]
    simp only [Option.map_some, if_neg hdi]
  exact (h.cut hfd hg).remove (hD.cut d x) hi0 (by rw [kids_of hfi]; exact hkid) (count_zero (by omega))
theorem flat_strike (i : Int) : flat (t.map fun e => { e with names := strike e.names i }) = (flat t).filter fun x => !(x.2.2 == i) := by
  unfold flat
  rw [List.flatMap_map, List.filter_flatMap]
  congr 1
  funext e
  show (strike e.names i).map _ = _
  unfold strike
  rw [List.filter_map]
  rfl
theorem drop_good (h : Good t) (i : Int) : Good (drop t i).2 := by
  unfold drop
  split
  · exact h
  rename_i hf
  split
  · exact h
  obtain ⟨e0, he0⟩ := file_has hf
  have hk1 := file_kind h hf he0
  have hid : ∀ e : En, ({ e with names := strike e.names i } : En).nd.id = e.nd.id := fun _ => rfl
  obtain ⟨hm0, hid0⟩ := find_some he0
  have hi0 : i ≠ 0 := fun e => by
    obtain ⟨r0, h1, h2, _⟩ := h.zero
    rw [e, h1] at he0
    injection he0 with he0
    rw [← he0] at hk1; omega
  obtain ⟨dep, hd0, hd⟩ := h.deep
  have hmem : ∀ e ∈ (t.map fun e => ({ e with names := strike e.names i } : En)), ∃ e1 ∈ t, e = { e1 with names := strike e1.names i } := fun e he => by
    obtain ⟨e1, h1, rfl⟩ := List.mem_map.1 he
    exact ⟨e1, h1, rfl⟩
  have hpre : Pre i (t.map fun e => ({ e with names := strike e.names i } : En)) := by
    refine ⟨?_, map_ris h.ris hid, by rw [List.length_map]; exact h.few, fun e he => ?_, fun e he n hn => ?_, fun e he hne => ?_, fun e he hne => ?_, fun e he hne => ?_⟩
    · obtain ⟨r, rest, rfl, h1, h2⟩ := h.root
      exact ⟨_, _, rfl, h1, h2⟩
    all_goals
      obtain ⟨e1, h1, rfl⟩ := hmem e he
    · have h2 := h.each e1 h1
      exact ⟨h2.nd, h2.size, strike_rise h2.rise i, fun n hn => h2.good n (List.mem_filter.1 hn).1, fun hk => by
        show strike e1.names i = []
        rw [h2.file hk]; rfl⟩
    · rw [find_map hid]
      obtain ⟨h2, h3⟩ := h.leads e1 h1 n (List.mem_filter.1 hn).1
      refine ⟨h2, ?_⟩
      cases hh : find t n.2 with
      | none => rw [hh] at h3; cases h3
      | some _ => rfl
    · unfold count
      rw [flat_strike, List.countP_filter]
      have e1' : ((flat t).countP fun a => decide (a.2.2 == e1.nd.id) && !(a.2.2 == i)) = (flat t).countP fun a => a.2.2 == e1.nd.id := by
        apply List.countP_congr
        intro a _
        have hne' : e1.nd.id ≠ i := hne
        by_cases hx : a.2.2 = e1.nd.id
        · simp [hx, hne']
        · simp [hx]
      have h2 := h.linked e1 h1
      unfold count at h2
      show ((List.countP _ (flat t) : Nat) : Int) + _ = _
      simp only [decide_eq_true_eq, Bool.decide_eq_true] at e1' ⊢
      rw [e1']
      exact h2
    · exact h.dirs e1 h1
    · exact h.shut e1 h1
  have hD : Deep dep (t.map fun e => ({ e with names := strike e.names i } : En)) := by
    refine ⟨hd0, fun e he n hn => ?_⟩
    obtain ⟨e1, h1, rfl⟩ := hmem e he
    have h2 := hd e1 h1 n (List.mem_filter.1 hn).1
    have h3 : kindOf (t.map fun e => ({ e with names := strike e.names i } : En)) n.2 = kindOf t n.2 := by
      unfold kindOf ndOf
      rw [find_map hid]
      cases find t n.2 <;> rfl
    rw [h3]; exact h2
  refine hpre.remove hD hi0 ?_ fun e he n hn => ?_
  · unfold kids
    rw [find_map hid, he0]
    show strike e0.names i = []
    rw [(h.each e0 hm0).file hk1]; rfl
  · obtain ⟨e1, h1, rfl⟩ := hmem e he
    have := (List.mem_filter.1 hn).2
    simpa using this
end Tr
end Go.Proofs.Ytpblhdpnmnfieaa
