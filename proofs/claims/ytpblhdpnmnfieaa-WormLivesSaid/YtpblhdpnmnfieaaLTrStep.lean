/-
  OWN WORK. Trees: plain mathematics: a tree stays right: what is turned of one node; a name more, a name less; a node more, a node less.
-/
import Derived.Test.YtpblhdpnmnfieaaLTrGood
namespace Go.Proofs.Ytpblhdpnmnfieaa
open Go.RowKit
namespace Tr
variable {t : T}
/-- How deep each directory is. -/
def Deep (dep : Int → Nat) (t : T) : Prop := dep 0 = 0 ∧ ∀ e ∈ t, ∀ n ∈ e.names, dep e.nd.id + 1 ≤ 8 ∧ (kindOf t n.2 = 2 → dep n.2 = dep e.nd.id + 1)
/-- Right, but for how many names node i has, and its Links. -/
structure Pre (i : Int) (t : T) : Prop where
  root : ∃ r rest, t = r :: rest ∧ r.nd.id = 0 ∧ r.nd.kind = 2
  rise : Ris t
  few : t.length ≤ 64
  each : ∀ e ∈ t, EnOk e
  leads : ∀ e ∈ t, ∀ n ∈ e.names, n.2 ≠ 0 ∧ (find t n.2).isSome = true
  linked : ∀ e ∈ t, e.nd.id ≠ i → (count t e.nd.id : Int) + (if e.nd.id = 0 then 1 else 0) = e.nd.links
  dirs : ∀ e ∈ t, e.nd.id ≠ i → e.nd.kind = 2 → e.nd.links = 1
  shut : ∀ e ∈ t, e.nd.id ≠ i → e.nd.shut = true → e.nd.links ≠ 0
theorem Good.pre (h : Good t) (i : Int) : Pre i t := ⟨h.root, h.rise, h.few, h.each, h.leads, fun e he _ => h.linked e he, fun e he _ => h.dirs e he, fun e he _ => h.shut e he⟩
theorem Pre.good {i : Int} (h : Pre i t) {dep : Int → Nat} (hd : Deep dep t) (hi : ∀ e ∈ t, e.nd.id = i → (count t e.nd.id : Int) + (if e.nd.id = 0 then 1 else 0) = e.nd.links ∧ (e.nd.kind = 2 → e.nd.links = 1) ∧ (e.nd.shut = true → e.nd.links ≠ 0)) : Good t := by
  refine ⟨h.root, h.rise, h.few, h.each, h.leads, fun e he => ?_, fun e he => ?_, fun e he => ?_, dep, hd⟩
  · by_cases hx : e.nd.id = i
    · exact (hi e he hx).1
    · exact h.linked e he hx
  · by_cases hx : e.nd.id = i
    · exact (hi e he hx).2.1
    · exact h.dirs e he hx
  · by_cases hx : e.nd.id = i
    · exact (hi e he hx).2.2
    · exact h.shut e he hx
/-! One node is turned. -/
theorem upd_mem {i : Int} {f : En → En} {e : En} (h : e ∈ upd t i f) : ∃ e0 ∈ t, e = if e0.nd.id = i then f e0 else e0 := by
  obtain ⟨e0, h0, rfl⟩ := List.mem_map.1 h
  refine ⟨e0, h0, ?_⟩
  by_cases hx : e0.nd.id = i <;> simp [hx]
theorem mem_upd {i : Int} {f : En → En} {e0 : En} (h : e0 ∈ t) : (if e0.nd.id = i then f e0 else e0) ∈ upd t i f := by
  refine List.mem_map.2 ⟨e0, h, ?_⟩
  by_cases hx : e0.nd.id = i <;> simp [hx]
theorem upd_root {i : Int} {f : En → En} (hf : ∀ e, (f e).nd.id = e.nd.id) (hk : ∀ e, (f e).nd.kind = e.nd.kind) (h : ∃ r rest, t = r :: rest ∧ r.nd.id = 0 ∧ r.nd.kind = 2) : ∃ r rest, upd t i f = r :: rest ∧ r.nd.id = 0 ∧ r.nd.kind = 2 := by
  obtain ⟨r, rest, rfl, h1, h2⟩ := h
  refine ⟨_, _, rfl, ?_, ?_⟩
  · show (if r.nd.id == i then f r else r).nd.id = 0
    split <;> simp [hf, h1]
  · show (if r.nd.id == i then f r else r).nd.kind = 2
    split <;> simp [hk, h2]
theorem kindOf_upd {i : Int} {f : En → En} (hf : ∀ e, (f e).nd.id = e.nd.id) (hk : ∀ e, (f e).nd.kind = e.nd.kind) (j : Int) : kindOf (upd t i f) j = kindOf t j := by
  unfold kindOf ndOf
  rw [find_upd hf]
  cases find t j with
  | none => rfl
  | some e =>
    simp only [Option.map_some, Option.getD_some]
    split <;> simp [hk]
theorem some_upd {i : Int} {f : En → En} (hf : ∀ e, (f e).nd.id = e.nd.id) (j : Int) : (find (upd t i f) j).isSome = (find t j).isSome := by
  rw [find_upd hf]; cases find t j <;> rfl
theorem flat_upd {i : Int} {f : En → En} (hf : ∀ e, (f e).nd.id = e.nd.id) (hn : ∀ e, (f e).names = e.names) : flat (upd t i f) = flat t := by
  unfold flat upd
  rw [List.flatMap_map]
  congr 1
  funext e
  split <;> simp [hf, hn]
/-- A node is turned, its names and Links are not. -/
theorem Good.turn (h : Good t) {i : Int} {f : En → En} (hf : ∀ e, (f e).nd.id = e.nd.id) (hk : ∀ e, (f e).nd.kind = e.nd.kind) (hn : ∀ e, (f e).names = e.names) (hl : ∀ e, (f e).nd.links = e.nd.links)
    (hok : ∀ e, find t i = some e → EnOk (f e) ∧ ((f e).nd.shut = true → e.nd.links ≠ 0)) : Good (upd t i f) := by
  have hfind : ∀ e ∈ t, e.nd.id = i → find t i = some e := fun e he hi => hi ▸ h.ris.find he
  obtain ⟨dep, hd0, hd⟩ := h.deep
  refine ⟨upd_root hf hk h.root, upd_ris h.ris hf, by rw [upd_length]; exact h.few, fun e he => ?_, fun e he n hm => ?_, fun e he => ?_, fun e he => ?_, fun e he => ?_, dep, hd0, fun e he n hm => ?_⟩
  all_goals
    obtain ⟨e0, h0, rfl⟩ := upd_mem he
  · split
    · rename_i hi; exact (hok e0 (hfind e0 h0 hi)).1
    · exact h.each e0 h0
  · have hm0 : n ∈ e0.names := by split at hm <;> simpa [hn] using hm
    rw [some_upd hf]
    exact h.leads e0 h0 n hm0
  · have h1 := h.linked e0 h0
    unfold count at h1 ⊢
    rw [flat_upd hf hn]
    split <;> (try simp only [hf, hl]) <;> exact h1
  · have h1 := h.dirs e0 h0
    split <;> (try simp only [hk, hl]) <;> exact h1
  · split
    · rename_i hi
      rw [hl]; exact (hok e0 (hfind e0 h0 hi)).2
    · exact h.shut e0 h0
  · have hm0 : n ∈ e0.names := by split at hm <;> simpa [hn] using hm
    have h1 := hd e0 h0 n hm0
    rw [kindOf_upd hf hk]
    split <;> (try simp only [hf]) <;> exact h1
/-! Names. -/
theorem flat_split {A B : T} {e : En} : flat (A ++ e :: B) = flat A ++ (e.names.map (fun n => (e.nd.id, n)) ++ flat B) := by
  unfold flat
  rw [List.flatMap_append, List.flatMap_cons]
theorem flat_put (hr : Ris t) {d : Int} {en : En} (hf : find t d = some en) (x : Bs) (k : Int) : (flat (put t d x k)).Perm ((d, (x, k)) :: flat t) := by
  obtain ⟨A, B, rfl, he, hA, hB⟩ := hr.split hf
  unfold put
  rw [upd_split he hA hB, flat_split, flat_split]
  have h1 : ((ins en.names x k).map fun n => (en.nd.id, n)).Perm ((d, (x, k)) :: en.names.map fun n => (en.nd.id, n)) := by
    have := (ins_perm en.names x k).map (fun n => (en.nd.id, n))
    rw [List.map_cons, he] at this
    rw [he]; exact this
  refine (List.Perm.append_left _ (h1.append_right _)).trans ?_
  exact List.perm_middle
theorem flat_cut (hr : Ris t) {d : Int} {en : En} (hf : find t d = some en) (hrn : Rise en.names) {x : Bs} {k : Int} (hg : get en.names x = some k) : (flat t).Perm ((d, (x, k)) :: flat (cut t d x)) := by
  obtain ⟨A, B, rfl, he, hA, hB⟩ := hr.split hf
  unfold cut
  rw [upd_split he hA hB, flat_split, flat_split]
  have h1 : (en.names.map fun n => (en.nd.id, n)).Perm ((d, (x, k)) :: (del en.names x).map fun n => (en.nd.id, n)) := by
    have := (del_perm hrn hg).map (fun n => (en.nd.id, n))
    rw [List.map_cons, he] at this
    rw [he]; exact this
  refine (List.Perm.append_left _ (h1.append_right _)).trans ?_
  exact List.perm_middle
theorem count_put (hr : Ris t) {d : Int} {en : En} (hf : find t d = some en) (x : Bs) (k j : Int) : count (put t d x k) j = count t j + if k = j then 1 else 0 := by
  unfold count
  rw [(flat_put hr hf x k).countP_eq, List.countP_cons]
  by_cases h : k = j <;> simp [h]
theorem count_cut (hr : Ris t) {d : Int} {en : En} (hf : find t d = some en) (hrn : Rise en.names) {x : Bs} {k : Int} (hg : get en.names x = some k) (j : Int) : count t j = count (cut t d x) j + if k = j then 1 else 0 := by
  unfold count
  rw [(flat_cut hr hf hrn hg).countP_eq, List.countP_cons]
  by_cases h : k = j <;> simp [h]
theorem put_id (x : Bs) (k : Int) : ∀ e : En, ({ e with names := ins e.names x k } : En).nd.id = e.nd.id := fun _ => rfl
theorem cut_id (x : Bs) : ∀ e : En, ({ e with names := del e.names x } : En).nd.id = e.nd.id := fun _ => rfl
/-- A name more, of node k. -/
theorem Pre.put {k : Int} (h : Pre k t) {d : Int} {en : En} (hf : find t d = some en) (hkd : en.nd.kind = 2) {x : Bs} (hx : Pa.good x = true) (hg : get en.names x = none) (hk0 : k ≠ 0) (hks : (find t k).isSome = true) : Pre k (put t d x k) := by
  have hfind : ∀ e ∈ t, e.nd.id = d → e = en := fun e he hi => by
    have := h.rise.find he
    rw [hi, hf] at this
    injection this with this
    exact this.symm
  refine ⟨upd_root (put_id x k) (fun _ => rfl) h.root, upd_ris h.rise (put_id x k), by unfold Tr.put; rw [upd_length]; exact h.few, fun e he => ?_, fun e he n hm => ?_, fun e he hne => ?_, fun e he hne => ?_, fun e he hne => ?_⟩
  all_goals
    obtain ⟨e0, h0, rfl⟩ := upd_mem he
  · split
    · rename_i hi
      obtain rfl := hfind e0 h0 hi
      have h1 := h.each e0 h0
      exact ⟨h1.nd, h1.size, ins_rise h1.rise k hg, fun n hn => by rcases ins_mem.1 hn with rfl | hn; exact hx; exact h1.good n hn, fun hk => by
        have hk' : e0.nd.kind = 1 := hk
        omega⟩
    · exact h.each e0 h0
  · unfold Tr.put
    rw [some_upd (put_id x k)]
    split at hm
    · rename_i hi
      rcases ins_mem.1 hm with rfl | hm
      · exact ⟨hk0, hks⟩
      · exact h.leads e0 h0 n hm
    · exact h.leads e0 h0 n hm
  · have hid : (if e0.nd.id = d then ({ e0 with names := ins e0.names x k } : En) else e0).nd = e0.nd := by split <;> rfl
    rw [hid] at hne ⊢
    rw [count_put h.rise hf, if_neg (fun e => hne e.symm)]
    exact h.linked e0 h0 hne
  · have hid : (if e0.nd.id = d then ({ e0 with names := ins e0.names x k } : En) else e0).nd = e0.nd := by split <;> rfl
    rw [hid] at hne ⊢
    exact h.dirs e0 h0 hne
  · have hid : (if e0.nd.id = d then ({ e0 with names := ins e0.names x k } : En) else e0).nd = e0.nd := by split <;> rfl
    rw [hid] at hne ⊢
    exact h.shut e0 h0 hne
theorem Deep.put {dep : Int → Nat} (h : Deep dep t) {d : Int} {x : Bs} {k : Int} (h8 : dep d + 1 ≤ 8) (hk : kindOf t k = 2 → dep k = dep d + 1) : Deep dep (put t d x k) := by
  refine ⟨h.1, fun e he n hm => ?_⟩
  obtain ⟨e0, h0, rfl⟩ := upd_mem he
  unfold Tr.put
  rw [kindOf_upd (put_id x k) (fun _ => rfl)]
  split at hm
  · rename_i hi
    rcases ins_mem.1 hm with rfl | hm
    · rw [if_pos hi]
      show dep e0.nd.id + 1 ≤ 8 ∧ _
      rw [hi]; exact ⟨h8, hk⟩
    · rw [if_pos hi]; exact h.2 e0 h0 n hm
  · rename_i hi
    rw [if_neg hi]; exact h.2 e0 h0 n hm
/-- A name less, of node k. -/
theorem Good.cut (h : Good t) {d : Int} {en : En} (hf : find t d = some en) {x : Bs} {k : Int} (hg : get en.names x = some k) : Pre k (cut t d x) := by
  have hrn := (h.each en (find_some hf).1).rise
  refine ⟨upd_root (cut_id x) (fun _ => rfl) h.root, upd_ris h.rise (cut_id x), by unfold Tr.cut; rw [upd_length]; exact h.few, fun e he => ?_, fun e he n hm => ?_, fun e he hne => ?_, fun e he hne => ?_, fun e he hne => ?_⟩
  all_goals
    obtain ⟨e0, h0, rfl⟩ := upd_mem he
    have hid : (if e0.nd.id = d then ({ e0 with names := del e0.names x } : En) else e0).nd = e0.nd := by split <;> rfl
  · split
    · have h1 := h.each e0 h0
      exact ⟨h1.nd, h1.size, del_rise h1.rise x, fun n hn => h1.good n ((List.mem_filter.1 hn).1), fun hk => by
        have := h1.file hk
        show del e0.names x = []
        rw [this]; rfl⟩
    · exact h.each e0 h0
  · unfold Tr.cut
    rw [some_upd (cut_id x)]
    split at hm
    · exact h.leads e0 h0 n ((List.mem_filter.1 hm).1)
    · exact h.leads e0 h0 n hm
  · rw [hid] at hne ⊢
    have h1 := h.linked e0 h0
    rw [count_cut h.rise hf hrn hg, if_neg (fun e => hne e.symm)] at h1
    exact h1
  · rw [hid] at hne ⊢
    exact h.dirs e0 h0
  · rw [hid] at hne ⊢
    exact h.shut e0 h0
theorem Deep.cut {dep : Int → Nat} (h : Deep dep t) (d : Int) (x : Bs) : Deep dep (cut t d x) := by
  refine ⟨h.1, fun e he n hm => ?_⟩
  obtain ⟨e0, h0, rfl⟩ := upd_mem he
  unfold Tr.cut
  rw [kindOf_upd (cut_id x) (fun _ => rfl)]
  split at hm
  · rename_i hi
    rw [if_pos hi]; exact h.2 e0 h0 n ((List.mem_filter.1 hm).1)
  · rename_i hi
    rw [if_neg hi]; exact h.2 e0 h0 n hm
/-- Links more, or less. -/
theorem Pre.more {k : Int} (h : Pre k t) {dep : Int → Nat} (hd : Deep dep t) {ek : En} (hf : find t k = some ek) (hk : ek.nd.kind = 1) {c : Int} (hc : (count t k : Int) = ek.nd.links + c) (hk0 : k ≠ 0) (h64 : ek.nd.links + c ≤ 65535) (hsh : ek.nd.shut = true → ek.nd.links + c ≠ 0) : Good (more t k c) := by
  have hid : ∀ e : En, ({ e with nd := { e.nd with links := e.nd.links + c } } : En).nd.id = e.nd.id := fun _ => rfl
  have hfind : ∀ e ∈ t, e.nd.id = k → e = ek := fun e he hi => by
    have := h.rise.find he
    rw [hi, hf] at this
    injection this with this
    exact this.symm
  have hflat : flat (Tr.more t k c) = flat t := flat_upd hid fun _ => rfl
  have hp : Pre k (Tr.more t k c) := by
    refine ⟨upd_root hid (fun _ => rfl) h.root, upd_ris h.rise hid, by unfold Tr.more; rw [upd_length]; exact h.few, fun e he => ?_, fun e he n hm => ?_, fun e he hne => ?_, fun e he hne => ?_, fun e he hne => ?_⟩
    all_goals
      obtain ⟨e0, h0, rfl⟩ := upd_mem he
    · split
      · rename_i hi
        obtain rfl := hfind e0 h0 hi
        have h1 := h.each e0 h0
        obtain ⟨n1, n2, n3, n4, n5, n6, n7, n8⟩ := h1.nd
        exact ⟨⟨n1, n2, by show 0 ≤ e0.nd.links + c; omega, h64, n5, n6, n7, .inl hk⟩, h1.size, h1.rise, h1.good, h1.file⟩
      · exact h.each e0 h0
    · unfold Tr.more
      rw [some_upd hid]
      have hm0 : n ∈ e0.names := by split at hm <;> exact hm
      exact h.leads e0 h0 n hm0
    · by_cases hi : e0.nd.id = k
      · rw [if_pos hi] at hne; exact absurd hi hne
      · rw [if_neg hi] at hne ⊢
        unfold count
        rw [hflat]
        exact h.linked e0 h0 hne
    · by_cases hi : e0.nd.id = k
      · rw [if_pos hi] at hne; exact absurd hi hne
      · rw [if_neg hi] at hne ⊢
        exact h.dirs e0 h0 hne
    · by_cases hi : e0.nd.id = k
      · rw [if_pos hi] at hne; exact absurd hi hne
      · rw [if_neg hi] at hne ⊢
        exact h.shut e0 h0 hne
  refine hp.good (dep := dep) ⟨hd.1, fun e he n hm => ?_⟩ fun e he hi => ?_
  · obtain ⟨e0, h0, rfl⟩ := upd_mem he
    unfold Tr.more
    rw [kindOf_upd hid (fun _ => rfl)]
    have hm0 : n ∈ e0.names := by split at hm <;> exact hm
    have := hd.2 e0 h0 n hm0
    split <;> exact this
  · obtain ⟨e0, h0, rfl⟩ := upd_mem he
    have hi0 : e0.nd.id = k := by split at hi <;> exact hi
    obtain rfl := hfind e0 h0 hi0
    rw [if_pos hi0]
    refine ⟨?_, fun h2 => ?_, hsh⟩
    · show (count (Tr.more t k c) e0.nd.id : Int) + (if e0.nd.id = 0 then 1 else 0) = e0.nd.links + c
      unfold count
      rw [hflat, hi0, if_neg hk0]
      unfold count at hc
      omega
    · have h2' : e0.nd.kind = 2 := h2
      omega
/-- A node less, that has no name, and none in it. -/
theorem Pre.remove {i : Int} (h : Pre i t) {dep : Int → Nat} (hd : Deep dep t) (hi0 : i ≠ 0) (hk : kids t i = []) (hn : ∀ e ∈ t, ∀ n ∈ e.names, n.2 ≠ i) : Good (remove t i) := by
  have hmem : ∀ e, e ∈ Tr.remove t i ↔ e ∈ t ∧ e.nd.id ≠ i := fun e => by
    unfold Tr.remove
    rw [List.mem_filter]
    simp
  have hflat : flat (Tr.remove t i) = flat t := by
    cases hf : find t i with
    | none =>
      have : Tr.remove t i = t := by
        unfold Tr.remove
        rw [List.filter_eq_self]
        intro e he
        have := find_none.1 hf e he
        simpa using this
      rw [this]
    | some e =>
      rw [kids_of hf] at hk
      obtain ⟨A, B, rfl, he, hA, hB⟩ := h.rise.split hf
      rw [remove_split he hA hB, flat_split, hk]
      simp [flat, List.flatMap_append]
  have hsome : ∀ j, j ≠ i → find (Tr.remove t i) j = find t j := fun j hj => by rw [find_remove, if_neg hj]
  refine ⟨?_, remove_ris h.rise i, Nat.le_trans (List.length_filter_le _ _) h.few, fun e he => h.each e ((hmem e).1 he).1, fun e he n hm => ?_, fun e he => ?_, fun e he => ?_, fun e he => ?_, dep, hd.1, fun e he n hm => ?_⟩
  · obtain ⟨r, rest, rfl, h1, h2⟩ := h.root
    refine ⟨r, Tr.remove rest i, ?_, h1, h2⟩
    unfold Tr.remove
    rw [List.filter_cons, if_pos (by rw [h1]; simpa using fun e : (0 : Int) = i => hi0 e.symm)]
  · obtain ⟨h1, _⟩ := (hmem e).1 he
    rw [hsome n.2 (hn e h1 n hm)]
    exact h.leads e h1 n hm
  · obtain ⟨h1, h2⟩ := (hmem e).1 he
    unfold count
    rw [hflat]
    exact h.linked e h1 h2
  · obtain ⟨h1, h2⟩ := (hmem e).1 he
    exact h.dirs e h1 h2
  · obtain ⟨h1, h2⟩ := (hmem e).1 he
    exact h.shut e h1 h2
  · obtain ⟨h1, _⟩ := (hmem e).1 he
    have h3 := hd.2 e h1 n hm
    have e1 : kindOf (Tr.remove t i) n.2 = kindOf t n.2 := by
      unfold kindOf ndOf
      rw [hsome n.2 (hn e h1 n hm)]
    rw [e1]; exact h3
theorem count_zero {i : Int} (h : count t i = 0) : ∀ e ∈ t, ∀ n ∈ e.names, n.2 ≠ i := fun e he n hn e2 => by
  unfold count at h
  rw [List.countP_eq_zero] at h
  have := h (e.nd.id, n) (flat_mem.2 ⟨e, he, rfl, hn⟩)
  simp [e2] at this
/-- A node more: it has no name yet. -/
theorem Good.insE (h : Good t) {k kind : Int} (hk : kind = 1 ∨ kind = 2) (hnew : ∀ e ∈ t, e.nd.id ≠ k) (hk0 : 0 ≤ k) (hk9 : k ≤ 65535) (hlt : t.length < 64) : Pre k (insE t (fresh k kind)) := by
  have hr := insE_ris h.ris (n := fresh k kind) hnew
  have hflat : (flat (Tr.insE t (fresh k kind))).Perm (flat t) := by
    unfold flat
    exact ((insE_perm t (fresh k kind)).flatMap_right _).trans (by rw [List.flatMap_cons]; exact .refl _)
  have hsome : ∀ j, (find t j).isSome = true → (find (Tr.insE t (fresh k kind)) j).isSome = true := fun j hj => by
    rw [find_insE h.ris hnew]
    split
    · rfl
    · exact hj
  refine ⟨?_, hr, by rw [insE_length]; omega, fun e he => ?_, fun e he n hm => ?_, fun e he hne => ?_, fun e he hne => ?_, fun e he hne => ?_⟩
  · obtain ⟨r, rest, rfl, h1, h2⟩ := h.root
    have h3 := hnew r (.head _)
    refine ⟨r, Tr.insE rest (fresh k kind), ?_, h1, h2⟩
    show (if r.nd.id < k then r :: Tr.insE rest (fresh k kind) else _) = _
    rw [if_pos (by omega)]
  · rcases insE_mem.1 he with rfl | he
    · refine ⟨⟨hk0, hk9, by show (0 : Int) ≤ 1; omega, by show (1 : Int) ≤ 65535; omega, by show (0 : Int) ≤ 0; omega, by show (0 : Int) ≤ 4096; omega, by show (0 : Nat) ≤ 1099511627776; omega, ?_⟩, rfl, List.Pairwise.nil, (fun n hn => by cases hn), fun _ => rfl⟩
      rcases hk with rfl | rfl
      · exact .inl rfl
      · exact .inr ⟨rfl, rfl, rfl, rfl⟩
    · exact h.each e he
  · rcases insE_mem.1 he with rfl | he
    · cases hm
    · obtain ⟨h1, h2⟩ := h.leads e he n hm
      exact ⟨h1, hsome _ h2⟩
  · rcases insE_mem.1 he with rfl | he
    · exact absurd rfl hne
    · unfold count
      rw [hflat.countP_eq]
      exact h.linked e he
  · rcases insE_mem.1 he with rfl | he
    · exact absurd rfl hne
    · exact h.dirs e he
  · rcases insE_mem.1 he with rfl | he
    · exact absurd rfl hne
    · exact h.shut e he
end Tr
end Go.Proofs.Ytpblhdpnmnfieaa
