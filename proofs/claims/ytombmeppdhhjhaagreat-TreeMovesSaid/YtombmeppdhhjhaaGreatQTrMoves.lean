/-
  OWN WORK. Trees: plain mathematics: what is renamed stands at the other place; renamed back all is as it was.
-/
import Derived.Test.YtombmeppdhhjhaaGreatQTrRenG
import Derived.Test.YtombmeppdhhjhaaGreatQ06
import Derived.Test.YtombmeppdhhjhaaGreatQTrNm
namespace Go.Proofs.YtombmeppdhhjhaaGreat
open Go.RowKit
namespace Tr
variable {t : T}
theorem upd_same {t : T} {i : Int} {f : En → En} (h : ∀ e ∈ t, e.nd.id = i → f e = e) : upd t i f = t := by
  unfold upd
  conv => rhs; rw [← List.map_id t]
  refine List.map_congr_left fun e he => ?_
  by_cases hx : e.nd.id = i
  · simp [hx, h e he hx]
  · simp [hx]
theorem upd_upd {t : T} {i : Int} {f g : En → En} (hf : ∀ e, (f e).nd.id = e.nd.id) : upd (upd t i f) i g = upd t i fun e => g (f e) := by
  unfold upd
  rw [List.map_map]
  refine List.map_congr_left fun e _ => ?_
  by_cases hx : e.nd.id = i
  · simp [hx, hf]
  · simp [hx]
theorem kids_cut (t : T) (d j : Int) (x : Bs) : kids (cut t d x) j = if j = d then del (kids t j) x else kids t j := by
  unfold kids cut
  rw [find_upd (cut_id x)]
  cases hf : find t j with
  | none => split <;> rfl
  | some e => simp only [Option.map_some, Option.getD_some]; split <;> rfl
theorem kids_put (t : T) (d j : Int) (x : Bs) (k : Int) (hd : (find t d).isSome = true) : kids (put t d x k) j = if j = d then ins (kids t j) x k else kids t j := by
  unfold kids put
  rw [find_upd (put_id x k)]
  cases hf : find t j with
  | none =>
    split
    · rename_i e; subst e; rw [hf] at hd; cases hd
    · rfl
  | some e => simp only [Option.map_some, Option.getD_some]; split <;> rfl
theorem kind_cut (t : T) (d j : Int) (x : Bs) : kindOf (cut t d x) j = kindOf t j := kindOf_upd (cut_id x) (fun _ => rfl) j
theorem kind_put (t : T) (d j : Int) (x : Bs) (k : Int) : kindOf (put t d x k) j = kindOf t j := kindOf_upd (put_id x k) (fun _ => rfl) j
theorem lookF_snoc {t : T} {i d j : Int} {q : List Bs} {x : Bs} (h1 : lookF t i q = (d, 0)) (hk : kindOf t d = 2) (hg : get (kids t d) x = some j) : lookF t i (q ++ [x]) = (j, 0) := by
  rw [lookF_app, h1, if_neg (by simp), lookF_cons, if_neg (by simp [hk]), hg]
  rfl
theorem lookF_snoc_no {t : T} {i d : Int} {q : List Bs} {x : Bs} (h1 : lookF t i q = (d, 0)) (hk : kindOf t d = 2) (hg : get (kids t d) x = none) : lookF t i (q ++ [x]) = (0, 20) := by
  rw [lookF_app, h1, if_neg (by simp), lookF_cons, if_neg (by simp [hk]), hg]
theorem Good.look_cut (h : Good t) {q1 : List Bs} {x0 : Bs} {d0 : Int} (hq : lookF t 0 q1 = (d0, 0)) (hk : kindOf t d0 = 2) : ∀ (n : Nat) (p : List Bs) (j : Int), p.length = n → lookF t 0 p = (j, 0) → ¬ (q1 ++ [x0]) <+: p → lookF (Tr.cut t d0 x0) 0 p = (j, 0)
  | 0, p, j, hn, hl, _ => by
    obtain rfl : p = [] := List.eq_nil_of_length_eq_zero hn
    exact hl
  | n + 1, p, j, hn, hl, hp => by
    rcases List.eq_nil_or_concat p with rfl | ⟨r, y, rfl⟩
    · cases hn
    · rw [List.concat_eq_append] at hn hl hp ⊢
      obtain ⟨e, he, h1, h2, h3⟩ := h.look_back hl
      have hn1 : r.length = n := by rw [List.length_append] at hn; simpa using hn
      have ih := h.look_cut hq hk n r e.nd.id hn1 h1 fun hpre => hp (hpre.trans (List.prefix_append _ _))
      have hke : kindOf t e.nd.id = 2 := by rw [kindOf_of (h.ris.find he)]; exact h2
      refine lookF_snoc ih (by rw [kind_cut]; exact hke) ?_
      rw [kids_cut, kids_of (h.ris.find he)]
      have hg := get_of_mem (h.each e he).rise h3
      split
      · rename_i hed
        rw [get_del]
        split
        · rename_i hy
          subst hy
          have := h.one_path _ r q1 d0 (Nat.le_refl _) (by rw [h1, hed]) hq hk
          subst this
          exact absurd (List.prefix_refl _) hp
        · exact hg
      · exact hg
theorem look_put {t : T} {d i : Int} {x : Bs} (hs : (find t d).isSome = true) (hr : Rise (kids t d)) (hg : get (kids t d) x = none) : ∀ (p : List Bs) (a j : Int), lookF t a p = (j, 0) → lookF (put t d x i) a p = (j, 0)
  | [], a, j, h => h
  | y :: p, a, j, h => by
    rw [lookF_cons] at h ⊢
    rw [kind_put]
    split at h
    · cases h
    · rename_i hk
      rw [if_neg hk, kids_put _ _ _ _ _ hs]
      cases hgy : get (kids t a) y with
      | none => rw [hgy] at h; cases h
      | some k =>
        rw [hgy] at h
        have h : lookF t k p = (j, 0) := h
        have : get (if a = d then ins (kids t a) x i else kids t a) y = some k := by
          split
          · rename_i e
            subst e
            rw [get_ins hr i hg]
            split
            · rename_i e; subst e; rw [hg] at hgy; cases hgy
            · exact hgy
          · exact hgy
        rw [this]
        exact look_put hs hr hg p k j h
theorem high_path (t : T) : ∀ (n : Nat) (i : Int), (∀ j, Rise (kids t j)) → (∀ j, kindOf t j ≠ 2 → kids t j = []) → ∃ s k, lookF t i s = (k, 0) ∧ s.length = high t n i
  | 0, i, _, _ => ⟨[], i, rfl, rfl⟩
  | n + 1, i, hr, hf => by
    have key : ∀ (l : List Nm) (m : Nat), (∀ k ∈ l, k ∈ kids t i) → (∃ s k, lookF t i s = (k, 0) ∧ s.length = m) → ∃ s k, lookF t i s = (k, 0) ∧ s.length = l.foldl (fun m k => max m (1 + high t n k.2)) m := by
      intro l
      induction l with
      | nil => intro m _ h; exact h
      | cons a l ih =>
        intro m hl hm
        refine ih _ (fun k hk => hl k (.tail _ hk)) ?_
        show ∃ s k, lookF t i s = (k, 0) ∧ s.length = max m (1 + high t n a.2)
        by_cases hc : m ≤ 1 + high t n a.2
        · rw [Nat.max_eq_right hc]
          obtain ⟨s, k, h1, h2⟩ := high_path t n a.2 hr hf
          have ha := hl a (.head _)
          have hk : kindOf t i = 2 := Decidable.byContradiction fun hk => by rw [hf i hk] at ha; cases ha
          refine ⟨a.1 :: s, k, ?_, by rw [List.length_cons, h2]; omega⟩
          rw [lookF_cons, if_neg (by simp [hk]), get_of_mem (hr i) ha]
          exact h1
        · rw [Nat.max_eq_left (by omega)]
          exact hm
    exact key (kids t i) 0 (fun _ h => h) ⟨[], i, rfl, rfl⟩
theorem Good.renamed (h : Good t) {q r : List Bs} (h0 : (rename t q r).1 = 0) : ∃ i, look t q = (i, 0) ∧ look (rename t q r).2 r = (i, 0) ∧ ((rename t q r).2 = t ∨ ((look (rename t q r).2 q).2 ≠ 0 ∧ rename (rename t q r).2 r q = (0, t))) := by
  have hgood := rename_good h q r
  unfold rename at h0 hgood ⊢
  split at h0
  · exact absurd h0 (by assumption)
  rename_i hfq
  split at h0
  · exact absurd h0 (by assumption)
  rename_i hfr
  split at h0
  · exact absurd h0 (by assumption)
  rename_i hl0
  split at h0
  · cases h0
  rename_i hq0
  split at h0
  · exact absurd h0 (by assumption)
  rename_i hp0
  split at h0
  · cases h0
  rename_i hwi
  rw [if_neg hfq, if_neg hfr, if_neg hl0, if_neg hq0, if_neg hp0, if_neg hwi] at hgood ⊢
  have hl : (lookF t 0 q).2 = 0 := Decidable.byContradiction hl0
  have hp : (place t r).2.2 = 0 := Decidable.byContradiction hp0
  have hfr0 : formed r = 0 := Decidable.byContradiction hfr
  have hfq0 : formed q = 0 := Decidable.byContradiction hfq
  have hfo := formed_ok hfr0
  obtain ⟨i, hi⟩ : ∃ i, i = (lookF t 0 q).1 := ⟨_, rfl⟩
  have hlk : lookF t 0 q = (i, 0) := Prod.ext hi.symm hl
  obtain ⟨q1, x0, d0, en0, hqe, hlr0, hfd0, hkd0, hg0, hpl0⟩ := h.looked hlk hq0
  obtain ⟨r1, x, en, d, hre, hlr, hpl, hfd, hkd, hid⟩ := h.placed hp
  have hlook : look t q = (i, 0) := by unfold look; rw [if_neg hfq, hlk]
  refine ⟨i, hlook, ?_⟩
  have hkd2 : kindOf t d = 2 := by rw [kindOf_of hfd]; exact hkd
  have hkd02 : kindOf t d0 = 2 := by rw [kindOf_of hfd0]; exact hkd0
  rw [← hi, hpl] at h0 hgood ⊢
  rw [← hi] at hwi
  rw [hpl0] at h0 hgood ⊢
  dsimp only at h0 hgood ⊢
  split at h0
  · rename_i hsame
    rw [if_pos hsame] at hgood ⊢
    refine ⟨?_, .inl rfl⟩
    unfold look
    rw [if_neg hfr, hre]
    exact lookF_snoc hlr hkd2 hsame
  · rename_i hsame
    split at h0
    · cases h0
    · rename_i hno
      split at h0
      · cases h0
      · rename_i h8
        rw [if_neg hsame, if_neg hno, if_neg h8] at hgood ⊢
        clear h0 hsame
        obtain ⟨t1, ht1⟩ : ∃ t1, t1 = Tr.cut t d0 x0 := ⟨_, rfl⟩
        obtain ⟨t', ht'⟩ : ∃ t', t' = Tr.put t1 d x i := ⟨_, rfl⟩
        rw [← ht1, ← ht'] at hgood ⊢
        dsimp only at hgood ⊢
        have hgx : get (kids t d) x = none := get_no hno
        have hgx0 : get (kids t d0) x0 = some i := by rw [kids_of hfd0]; exact hg0
        have hs1 : (find t1 d).isSome = true := by rw [ht1]; unfold Tr.cut; rw [some_upd (cut_id x0), hfd]; rfl
        have hk1 : kids t1 d = if d = d0 then del (kids t d) x0 else kids t d := by rw [ht1]; exact kids_cut _ _ _ _
        have hr1 : Rise (kids t1 d) := by
          rw [hk1]
          split
          · exact del_rise (h.rises d) x0
          · exact h.rises d
        have hg1 : get (kids t1 d) x = none := by
          rw [hk1]
          split
          · rw [get_del]; split
            · rfl
            · exact hgx
          · exact hgx
        have hnp : ¬ (q1 ++ [x0]) <+: r1 := fun hpre => by
          obtain ⟨s, hs⟩ := hpre
          rw [← hqe] at hs
          have h1 := hlr
          rw [← hs, lookF_app, hlk, if_neg (by simp)] at h1
          have h2 := look_dir h1 hkd2
          refine hwi ⟨h2, ?_⟩
          unfold within
          rw [List.isPrefixOf_iff_prefix, hre, ← hs, List.append_assoc]
          exact List.prefix_append _ _
        have hdr : lookF t' 0 r1 = (d, 0) := by
          rw [ht', ht1]
          refine look_put (by rw [← ht1]; exact hs1) (by rw [← ht1]; exact hr1) (by rw [← ht1]; exact hg1) r1 0 d ?_
          exact h.look_cut hlr0 hkd02 _ r1 d rfl hlr hnp
        have hdq : lookF t' 0 q1 = (d0, 0) := by
          rw [ht', ht1]
          refine look_put (by rw [← ht1]; exact hs1) (by rw [← ht1]; exact hr1) (by rw [← ht1]; exact hg1) q1 0 d0 ?_
          refine h.look_cut hlr0 hkd02 _ q1 d0 rfl hlr0 fun hpre => ?_
          have := hpre.length_le
          rw [List.length_append, List.length_cons, List.length_nil] at this
          omega
        have hkk : ∀ j, kindOf t' j = kindOf t j := fun j => by rw [ht', kind_put, ht1, kind_cut]
        have hgt : get (kids t' d) x = some i := by
          rw [ht', kids_put _ _ _ _ _ hs1, if_pos rfl, get_ins hr1 i hg1, if_pos rfl]
        have hlr' : lookF t' 0 r = (i, 0) := by
          rw [hre]
          exact lookF_snoc hdr (by rw [hkk]; exact hkd2) hgt
        have hgq : get (kids t' d0) x0 = none := by
          rw [ht', kids_put _ _ _ _ _ hs1]
          have hcut : get (kids t1 d0) x0 = none := by rw [ht1, kids_cut, if_pos rfl, get_del, if_pos rfl]
          split
          · rename_i e
            subst e
            rw [get_ins hr1 i hg1]
            split
            · rename_i e; subst e; rw [hgx] at hgx0; cases hgx0
            · exact hcut
          · exact hcut
        have hlq' : lookF t' 0 q = (0, 20) := by
          rw [hqe]
          exact lookF_snoc_no hdq (by rw [hkk]; exact hkd02) hgq
        refine ⟨by unfold look; rw [if_neg hfr, hlr'], .inr ⟨by unfold look; rw [if_neg hfq, hlq']; simp, ?_⟩⟩
        have hpq : place t' q = (d0, x0, 0) := by
          unfold place
          rw [if_neg hq0]
          have e1 : q.dropLast = q1 := by rw [hqe]; simp
          have e2 : q.getLastD [] = x0 := by rw [hqe]; simp
          rw [e1, e2, hdq, if_neg (by simp), if_neg (by rw [hkk]; simp [hkd02])]
        have hr0 : r ≠ [] := by rw [hre]; simp
        have hpr : place t' r = (d, x, 0) := by
          unfold place
          rw [if_neg hr0]
          have e1 : r.dropLast = r1 := by rw [hre]; simp
          have e2 : r.getLastD [] = x := by rw [hre]; simp
          rw [e1, e2, hdr, if_neg (by simp), if_neg (by rw [hkk]; simp [hkd2])]
        have hlrt : lookF t 0 r = (0, 20) := by rw [hre]; exact lookF_snoc_no hlr hkd2 hgx
        have hw' : ¬ (kindOf t' (lookF t' 0 r).1 = 2 ∧ within q r = true) := fun hh => by
          have h1 := hh.2
          unfold within at h1
          rw [List.isPrefixOf_iff_prefix] at h1
          obtain ⟨s, hs⟩ := h1
          have h2 := hlk
          rw [← hs, lookF_app, hlrt, if_pos (by simp)] at h2
          injection h2 with _ h2
          cases h2
        have hsub : ∀ (n : Nat) (s : List Bs) (k : Int), s.length = n → lookF t' i s = (k, 0) → lookF t i s = (k, 0) := by
          intro n
          induction n with
          | zero =>
            intro s k hn hs
            obtain rfl : s = [] := List.eq_nil_of_length_eq_zero hn
            exact hs
          | succ n ih =>
            intro s k hn hs
            rcases List.eq_nil_or_concat s with rfl | ⟨s1, y, rfl⟩
            · cases hn
            · rw [List.concat_eq_append] at hn hs ⊢
              obtain ⟨e, he, h1, h2, h3⟩ := hgood.look_back hs
              have hn1 : s1.length = n := by rw [List.length_append] at hn; simpa using hn
              obtain ⟨e0, he0, hnd, hnm⟩ := moved_mem (show e ∈ Tr.put (Tr.cut t d0 x0) d x i by rw [← ht1, ← ht']; exact he)
              rcases hnm _ h3 with ⟨h4, h5⟩ | ⟨h4, _⟩
              · exfalso
                have h6 : lookF t' 0 (r ++ s1) = (d, 0) := by
                  rw [lookF_app, hlr', if_neg (by simp)]
                  rw [h1, hnd, h5]
                have h7 := hgood.one_path _ (r ++ s1) r1 d (Nat.le_refl _) h6 hdr (by rw [hkk]; exact hkd2)
                have h9 := congrArg List.length h7
                rw [hre] at h9
                simp only [List.length_append, List.length_cons, List.length_nil] at h9
                omega
              · have h6 := ih s1 e.nd.id hn1 h1
                rw [hnd] at h6
                exact h.look_on he0 h6 (by rw [← hnd]; exact h2) h4
        obtain ⟨s, k, hs1', hs2⟩ := high_path t' 64 i (fun j => hgood.rises j) (fun j hj => hgood.file_kids hj)
        have hts := hsub _ s k rfl hs1'
        have hq8 : q.length + high t' 64 i ≤ 8 := by
          have h1 : lookF t 0 (q ++ s) = (k, 0) := by rw [lookF_app, hlk, if_neg (by simp)]; exact hts
          have h2 := h.path_le h1
          rw [List.length_append] at h2
          omega
        rw [if_neg hfr, if_neg hfq, hlr', if_neg (by simp), if_neg hr0, hpq, hpr, if_neg (by simp)]
        rw [hlr'] at hw'
        rw [if_neg hw', hgq, if_neg (by simp), if_neg (by simp), if_neg (show ¬ 8 < q.length + high t' 64 i by omega)]
        refine Prod.ext rfl ?_
        show Tr.put (Tr.cut t' d x) d0 x0 i = t
        have e1 : Tr.cut t' d x = t1 := by
          rw [ht']
          unfold Tr.cut Tr.put
          rw [upd_upd (put_id x i)]
          refine upd_same fun e he hed => ?_
          have hfe : kids t1 d = e.names := by
            have hris1 : Ris t1 := by rw [ht1]; unfold Tr.cut; exact upd_ris h.ris (cut_id x0)
            have := hris1.find he
            rw [hed] at this
            exact kids_of this
          show (⟨e.nd, e.data, del (ins e.names x i) x⟩ : En) = e
          rw [← hfe, del_ins hr1 i hg1, hfe]
        rw [e1, ht1]
        unfold Tr.put Tr.cut
        rw [upd_upd (cut_id x0)]
        refine upd_same fun e he hed => ?_
        have hfe : kids t d0 = e.names := by
          have := h.ris.find he
          rw [hed] at this
          exact kids_of this
        show (⟨e.nd, e.data, ins (del e.names x0) x0 i⟩ : En) = e
        rw [← hfe, ins_del (h.rises d0) hgx0, hfe]
end Tr
end Go.Proofs.YtombmeppdhhjhaaGreat
