/-
  OWN WORK. A tree of files, one by one, some of them closed: plain mathematics.
-/
import Derived.Test.YtpblhdpnmnfieaaLWoLive
import Derived.Test.YtpblhdpnmnfieaaLTrGood
import Derived.Test.YtpblhdpnmnfieaaLTrLaw
import Derived.Test.YtpblhdpnmnfieaaLTrKept
namespace Go.Proofs.Ytpblhdpnmnfieaa
open Go.RowKit Rc
open Tr (Nm En T)
namespace Wo
def nmOf (i : Nat) : Bs := [102, UInt8.ofNat (97 + i)]
def nms (n : Nat) : List Nm := (List.range n).map fun i => (nmOf i, (i : Int) + 1)
theorem nm_formed : ∀ n, n < 20 → Tr.formed [nmOf n] = 0 := by decide
theorem nm_get : ∀ n, n < 20 → Tr.get (nms n) (nmOf n) = none := by decide
theorem nm_ins : ∀ n, n < 20 → Tr.ins (nms n) (nmOf n) ((n : Int) + 1) = nms (n + 1) := by decide
def fe (i : Nat) (o : Option Nat) : En := ⟨⟨(i : Int) + 1, 1, 1, 0, o.getD 0, o.isSome⟩, [], []⟩
def fes : Nat → List (Option Nat) → T
  | _, [] => []
  | k, o :: L => fe k o :: fes (k + 1) L
def rt (n : Nat) : En := ⟨⟨0, 2, 1, 0, 0, true⟩, [], nms n⟩
def ft (L : List (Option Nat)) : T := rt L.length :: fes 0 L
theorem fes_append (k : Nat) (L : List (Option Nat)) (o : Option Nat) : fes k (L ++ [o]) = fes k L ++ [fe (k + L.length) o] := by
  induction L generalizing k with
  | nil => rfl
  | cons x L ih =>
    show fe k x :: fes (k + 1) (L ++ [o]) = fe k x :: fes (k + 1) L ++ [fe (k + (L.length + 1)) o]
    rw [ih, show k + 1 + L.length = k + (L.length + 1) by omega]; rfl
theorem fes_length (k : Nat) (L : List (Option Nat)) : (fes k L).length = L.length := by
  induction L generalizing k with
  | nil => rfl
  | cons x L ih => show (fes (k + 1) L).length + 1 = _; rw [ih]; rfl
theorem fes_in {k : Nat} {L : List (Option Nat)} {e : En} (h : e ∈ fes k L) : (k : Int) + 1 ≤ e.nd.id ∧ e.nd.id ≤ (k : Int) + (L.length : Nat) ∧ e.nd.links = 1 := by
  induction L generalizing k with
  | nil => cases h
  | cons x L ih =>
    rcases List.mem_cons.1 h with rfl | h
    · refine ⟨by show (k : Int) + 1 ≤ (k : Int) + 1; omega, ?_, rfl⟩
      show (k : Int) + 1 ≤ _
      rw [List.length_cons]; omega
    · have := ih h
      rw [List.length_cons]
      exact ⟨by omega, by omega, this.2.2⟩
theorem free_fes (k : Nat) (L : List (Option Nat)) : Tr.freeFrom ((k : Int) + 1) (fes k L) = (k : Int) + 1 + (L.length : Nat) := by
  induction L generalizing k with
  | nil => show (k : Int) + 1 = (k : Int) + 1 + ((0 : Nat) : Int); omega
  | cons x L ih =>
    show (if (k : Int) + 1 = (k : Int) + 1 then Tr.freeFrom ((k : Int) + 1 + 1) (fes (k + 1) L) else _) = _
    rw [if_pos rfl]
    have := ih (k + 1)
    rw [show (((k + 1 : Nat) : Int) + 1) = (k : Int) + 1 + 1 by omega] at this
    rw [this, List.length_cons]; omega
theorem free_ft (L : List (Option Nat)) : Tr.free (ft L) = (L.length : Int) + 1 := by
  show Tr.freeFrom (0 + 1) (fes 0 L) = _
  have := free_fes 0 L
  rw [show (((0 : Nat) : Int) + 1) = 0 + 1 by omega] at this
  rw [this]; omega
theorem insE_end {t : T} {n : En} (h : ∀ e ∈ t, e.nd.id < n.nd.id) : Tr.insE t n = t ++ [n] := by
  induction t with
  | nil => rfl
  | cons e t ih =>
    unfold Tr.insE
    rw [if_pos (h e (.head _)), ih fun a ha => h a (.tail _ ha)]; rfl
theorem upd_not {t : T} {i : Int} {f : En → En} (h : ∀ e ∈ t, e.nd.id ≠ i) : Tr.upd t i f = t := by
  unfold Tr.upd
  have : (t.map fun e => if e.nd.id == i then f e else e) = t.map id := List.map_congr_left fun a ha => by
    rw [if_neg (by simpa using h a ha)]; rfl
  rw [this, List.map_id]
theorem ft_ids {L : List (Option Nat)} {e : En} (h : e ∈ ft L) : e.nd.id ≤ (L.length : Nat) ∧ e.nd.links = 1 := by
  rcases List.mem_cons.1 h with rfl | h
  · exact ⟨by show (0 : Int) ≤ _; omega, rfl⟩
  · have := fes_in h; exact ⟨by omega, this.2.2⟩
theorem make_ft (L : List (Option Nat)) (h : L.length < 20) : Tr.make (ft L) [nmOf L.length] 1 = (((L.length : Int) + 1, 0), ft (L ++ [none])) := by
  have hp : Tr.place (ft L) [nmOf L.length] = (0, nmOf L.length, 0) := rfl
  have hk : Tr.kids (ft L) 0 = nms L.length := rfl
  have hl : (ft L).length = L.length + 1 := by show (fes 0 L).length + 1 = _; rw [fes_length]
  unfold Tr.make
  rw [if_neg (by rw [nm_formed _ h]; simp), if_neg (by simp), hp]
  show (if (0 : Nat) ≠ 0 then _ else if (Tr.get (Tr.kids (ft L) 0) (nmOf L.length)).isSome then _ else _) = _
  rw [if_neg (by simp), hk, nm_get _ h, if_neg (by simp), if_neg (by rw [hl]; omega), free_ft]
  refine Prod.ext rfl ?_
  show Tr.put (Tr.insE (ft L) (Tr.fresh ((L.length : Int) + 1) 1)) 0 (nmOf L.length) ((L.length : Int) + 1) = _
  rw [insE_end fun e he => by have := ft_ids he; show _ < (L.length : Int) + 1; omega]
  show Tr.upd (rt L.length :: (fes 0 L ++ [fe L.length none])) 0 _ = _
  unfold Tr.upd
  rw [List.map_cons]
  have h2 : ((fes 0 L ++ [fe L.length none]).map fun e => if (e.nd.id == 0) = true then ({ e with names := Tr.ins e.names (nmOf L.length) ((L.length : Int) + 1) } : En) else e) = fes 0 L ++ [fe L.length none] := by
    refine upd_not (i := 0) (f := fun e => { e with names := Tr.ins e.names (nmOf L.length) ((L.length : Int) + 1) }) fun e he => ?_
    rcases List.mem_append.1 he with he | he
    · have := fes_in he; omega
    · simp at he; subst he; show (L.length : Int) + 1 ≠ 0; omega
  rw [h2]
  show (⟨⟨0, 2, 1, 0, 0, true⟩, [], Tr.ins (nms L.length) (nmOf L.length) ((L.length : Int) + 1)⟩ : En) :: _ = ft (L ++ [none])
  rw [nm_ins _ h]
  unfold ft
  rw [fes_append, List.length_append, Nat.zero_add]; rfl
theorem seal_ft (L : List (Option Nat)) (u : Nat) (hu : u ≤ 1099511627776) : Tr.seal_ (ft (L ++ [none])) ((L.length : Int) + 1) u = (0, ft (L ++ [some u])) := by
  have hs : ft (L ++ [none]) = (rt (L.length + 1) :: fes 0 L) ++ [fe L.length none] := by
    unfold ft
    rw [fes_append, List.length_append, Nat.zero_add]; rfl
  have hs2 : ft (L ++ [some u]) = (rt (L.length + 1) :: fes 0 L) ++ [fe L.length (some u)] := by
    unfold ft
    rw [fes_append, List.length_append, Nat.zero_add]; rfl
  have hne : ∀ e ∈ rt (L.length + 1) :: fes 0 L, e.nd.id ≠ (L.length : Int) + 1 := by
    intro e he
    rcases List.mem_cons.1 he with rfl | he
    · show (0 : Int) ≠ _; omega
    · have := fes_in he; omega
  have hf : Tr.find (ft (L ++ [none])) ((L.length : Int) + 1) = some (fe L.length none) := by
    unfold Tr.find
    rw [hs, List.find?_append, List.find?_eq_none.2 (fun a ha => by simpa using hne a ha)]
    simp [fe]
  have hfile : Tr.file (ft (L ++ [none])) ((L.length : Int) + 1) = 0 := by
    unfold Tr.file Tr.kindOf Tr.ndOf
    rw [hf]; rfl
  have hnd : Tr.ndOf (ft (L ++ [none])) ((L.length : Int) + 1) = (fe L.length none).nd := by
    unfold Tr.ndOf; rw [hf]; rfl
  unfold Tr.seal_
  rw [hfile, hnd, if_neg (by simp), if_neg (by simp [fe]), if_neg (by omega), if_neg (by simp [fe])]
  refine Prod.ext rfl ?_
  show Tr.upd _ _ _ = _
  rw [hs, hs2]
  unfold Tr.upd
  rw [List.map_append]
  congr 1
  · exact upd_not hne
  · simp [fe, Tr.shutE]
theorem live_snoc (L : List (Option Nat)) (o : Option Nat) (now : Nat) : live (ft (L ++ [o])) now = live (ft L) now ++ (if o.isSome && decide (now < o.getD 0) then [(L.length : Int) + 1] else []) := by
  have h : ∀ n (x : T), live (rt n :: x) now = live x now := fun n x => by
    unfold live
    rw [List.filter_cons, if_neg (by simp [kept, rt])]
  unfold ft
  rw [h, h, fes_append, live_append, live_one, Nat.zero_add]
  congr 1
theorem live_none {L : List (Option Nat)} {now : Nat} (h : ∀ u, some u ∈ L → u ≤ now) : live (ft L) now = [] := by
  unfold live
  rw [List.map_eq_nil_iff, List.filter_eq_nil_iff]
  intro e he hk
  rcases List.mem_cons.1 he with rfl | he
  · simp [kept, rt] at hk
  · have : ∀ (k : Nat) (L : List (Option Nat)), e ∈ fes k L → ∃ i o, o ∈ L ∧ e = fe i o := by
      intro k L
      induction L generalizing k with
      | nil => intro h; cases h
      | cons x L ih =>
        intro h
        rcases List.mem_cons.1 h with rfl | h
        · exact ⟨_, x, .head _, rfl⟩
        · obtain ⟨i, o, h1, h2⟩ := ih _ h
          exact ⟨i, o, .tail _ h1, h2⟩
    obtain ⟨i, o, ho, rfl⟩ := this 0 L he
    cases o with
    | none => simp [kept, fe] at hk
    | some u =>
      have h1 := h u ho
      have h2 : now < u := by
        have h3 : ((decide ((1 : Int) = 1)) && (true && decide (now < u))) = true := hk
        simpa using h3
      omega
/-! Both lists. -/
/-- A node that lives. -/
theorem live_node {t : T} (hG : Tr.Good t) {e : En} (he : e ∈ t) : Tr.node t e.nd.id = (e.nd, true) := by
  have hf : Tr.find t e.nd.id = some e := by
    obtain ⟨A, B, rfl⟩ := List.append_of_mem he
    have hr := List.pairwise_append.1 hG.rise
    unfold Tr.find
    rw [List.find?_append, List.find?_eq_none.2 (fun a ha => by have := hr.2.2 a ha e (.head _); simp; omega)]
    simp
  unfold Tr.node Tr.ndOf
  rw [hf]; rfl
/-- Those that live now. -/
def liv (t : T) (now : Nat) : T := t.filter fun e => kept e.nd now
theorem live_liv (t : T) (now : Nat) : live t now = (liv t now).map (·.nd.id) := rfl
theorem liv_later {t : T} {now later : Nat} (h : now ≤ later) : liv t later = (liv t now).filter fun e => kept e.nd later := by
  unfold liv
  rw [List.filter_filter]
  refine List.filter_congr fun e _ => ?_
  unfold kept
  by_cases h1 : later < e.nd.till
  · rw [decide_eq_true (show now < e.nd.till by omega), decide_eq_true h1]; simp
  · rw [decide_eq_false h1]; simp
theorem liv_rise {t : T} (hG : Tr.Good t) (now : Nat) : (liv t now).Pairwise fun a b => a.nd.id < b.nd.id := hG.rise.filter _
/-- How far the walk through both has come. -/
def seen (t : T) (now later i : Nat) : Nat := (((liv t now).take i).filter fun e => kept e.nd later).length
theorem seen_end {t : T} {now later : Nat} (h : now ≤ later) : seen t now later (live t now).length = (live t later).length := by
  unfold seen
  rw [live_liv, live_liv, List.length_map, List.length_map, List.take_length, liv_later h]
theorem seen_step {t : T} (hG : Tr.Good t) {now later i : Nat} (h : now ≤ later) {e : En} (he : (liv t now)[i]? = some e) :
    (kept e.nd later = true → (live t later)[seen t now later i]? = some e.nd.id ∧ seen t now later (i + 1) = seen t now later i + 1) ∧
    (kept e.nd later = false → (∀ y, (live t later)[seen t now later i]? = some y → y ≠ e.nd.id) ∧ seen t now later (i + 1) = seen t now later i) := by
  have hi : i < (liv t now).length := (List.getElem?_eq_some_iff.1 he).1
  have hd : (liv t now).drop i = e :: (liv t now).drop (i + 1) := by
    rw [List.drop_eq_getElem_cons hi]
    rw [(List.getElem?_eq_some_iff.1 he).2]
  have hsp : live t later = (((liv t now).take i).filter fun e => kept e.nd later).map (·.nd.id) ++ (((liv t now).drop i).filter fun e => kept e.nd later).map (·.nd.id) := by
    rw [live_liv, liv_later h, ← List.map_append, ← List.filter_append, List.take_append_drop]
  have hl : ((((liv t now).take i).filter fun e => kept e.nd later).map (·.nd.id)).length = seen t now later i := by
    rw [List.length_map]; rfl
  have ht : (liv t now).take (i + 1) = (liv t now).take i ++ [e] := by
    rw [List.take_add_one, he]; rfl
  have hs : seen t now later (i + 1) = seen t now later i + (if kept e.nd later then 1 else 0) := by
    unfold seen
    rw [ht, List.filter_append, List.length_append]
    congr 1
    cases hk : kept e.nd later <;> simp [hk]
  have hg : (live t later)[seen t now later i]? = ((((liv t now).drop i).filter fun e => kept e.nd later).map (·.nd.id))[0]? := by
    rw [hsp, List.getElem?_append_right (by omega), hl, Nat.sub_self]
  constructor
  · intro hk
    rw [hg, hs, hd, List.filter_cons, if_pos hk, if_pos hk]
    exact ⟨rfl, rfl⟩
  · intro hk
    rw [hs, hk]
    refine ⟨fun y hy => ?_, rfl⟩
    rw [hg, hd, List.filter_cons, if_neg (by rw [hk]; simp)] at hy
    have hm := List.mem_of_getElem? hy
    obtain ⟨b, hb, rfl⟩ := List.mem_map.1 hm
    have hb2 := (List.mem_filter.1 hb).1
    have hr := liv_rise hG now
    rw [← List.take_append_drop i (liv t now), hd] at hr
    have := (List.pairwise_cons.1 (List.pairwise_append.1 hr).2.1).1 b hb2
    omega
theorem live_less {t : T} {now later : Nat} (h : now ≤ later) : (live t later).length ≤ (live t now).length := by
  rw [live_liv, live_liv, List.length_map, List.length_map, liv_later h]
  exact List.length_filter_le _ _
theorem live_at {t : T} {now i : Nat} {x : Int} (h : (live t now)[i]? = some x) : ∃ e, (liv t now)[i]? = some e ∧ x = e.nd.id ∧ e ∈ t ∧ kept e.nd now = true := by
  rw [live_liv, List.getElem?_map] at h
  obtain ⟨e, h1, h2⟩ := Option.map_eq_some_iff.1 h
  have := List.mem_filter.1 (List.mem_of_getElem? h1)
  exact ⟨e, h1, h2.symm, this.1, this.2⟩
theorem live_pair {t : T} (hG : Tr.Good t) {now i : Nat} {x y : Int} (hx : (live t now)[i]? = some x) (hy : (live t now)[i + 1]? = some y) : x < y := by
  obtain ⟨a, ha, rfl, _⟩ := live_at hx
  obtain ⟨b, hb, rfl, _⟩ := live_at hy
  have hr := liv_rise hG now
  obtain ⟨h1, e1⟩ := List.getElem?_eq_some_iff.1 ha
  obtain ⟨h2, e2⟩ := List.getElem?_eq_some_iff.1 hb
  have := List.pairwise_iff_getElem.1 hr i (i + 1) h1 h2 (by omega)
  rw [e1, e2] at this
  exact this
theorem kept_remove {n : Nd} {now : Nat} (h : kept n now = true) (hl : n.links = 1) : remove n now = 28 := by
  unfold kept at h
  simp at h
  unfold remove fileN
  simp [h, hl]
end Wo
end Go.Proofs.Ytpblhdpnmnfieaa
