/-
  OWN WORK. Trees: plain mathematics: a new file, written, closed, linked, and unlinked twice.
-/
import Derived.Test.YtombmeppdhhjhaaGreatQTrMoves
import Derived.Test.YtombmeppdhhjhaaGreatQTwShort
import Derived.Test.YtombmeppdhhjhaaGreatQ11
namespace Go.Proofs.YtombmeppdhhjhaaGreat
open Go.RowKit
namespace Tr
variable {t : T}
theorem kids_upd {f : En → En} (hf : ∀ e, (f e).nd.id = e.nd.id) (hn : ∀ e, (f e).names = e.names) (i j : Int) : kids (upd t i f) j = kids t j := by
  unfold kids
  rw [find_upd hf]
  cases find t j with
  | none => rfl
  | some e => simp only [Option.map_some, Option.getD_some]; split <;> simp [hn]
theorem look_upd {f : En → En} (hf : ∀ e, (f e).nd.id = e.nd.id) (hk : ∀ e, (f e).nd.kind = e.nd.kind) (hn : ∀ e, (f e).names = e.names) (i : Int) : ∀ (p : List Bs) (a : Int), lookF (upd t i f) a p = lookF t a p
  | [], _ => rfl
  | x :: p, a => by
    rw [lookF_cons, lookF_cons, kindOf_upd hf hk, kids_upd hf hn]
    split
    · rfl
    · cases get (kids t a) x with
      | none => rfl
      | some k => exact look_upd hf hk hn i p k
theorem find_one {f : En → En} (hf : ∀ e, (f e).nd.id = e.nd.id) {i : Int} {e : En} (h : find t i = some e) : find (upd t i f) i = some (f e) := by
  rw [find_upd hf, h]; simp
theorem find_other {f : En → En} (hf : ∀ e, (f e).nd.id = e.nd.id) {i j : Int} (hne : i ≠ j) {e : En} (h : find t i = some e) : find (upd t j f) i = some e := by
  rw [find_upd hf, h]; simp [hne]
theorem look_one (h : Good t) {x : Bs} {k : Int} (hg : get (kids t 0) x = some k) : lookF t 0 [x] = (k, 0) := by
  rw [lookF_cons, if_neg (by simp [h.kind0]), hg]
  rfl
def fileN (id links : Int) (b : Bs) (shut : Bool) : En := ⟨⟨id, 1, links, (b.length : Nat), 0, shut⟩, b, []⟩
theorem look_more (t : T) (i c : Int) (p : List Bs) (a : Int) : lookF (more t i c) a p = lookF t a p := look_upd (f := fun e => { e with nd := { e.nd with links := e.nd.links + c } }) (fun _ => rfl) (fun _ => rfl) (fun _ => rfl) i p a
theorem kids_more (t : T) (i c j : Int) : kids (more t i c) j = kids t j := kids_upd (f := fun e => { e with nd := { e.nd with links := e.nd.links + c } }) (fun _ => rfl) (fun _ => rfl) i j
theorem find_more {i c : Int} {e : En} (h : find t i = some e) : find (more t i c) i = some { e with nd := { e.nd with links := e.nd.links + c } } := find_one (f := fun e => { e with nd := { e.nd with links := e.nd.links + c } }) (fun _ => rfl) h
theorem find_put {i d k : Int} {x : Bs} (hne : i ≠ d) {e : En} (h : find t i = some e) : find (put t d x k) i = some e := find_other (f := fun e => { e with names := ins e.names x k }) (fun _ => rfl) hne h
theorem find_cut {i d : Int} {x : Bs} (hne : i ≠ d) {e : En} (h : find t i = some e) : find (cut t d x) i = some e := find_other (f := fun e => { e with names := del e.names x }) (fun _ => rfl) hne h
theorem file_new {id links : Int} {b : Bs} {s : Bool} (hfi : find t id = some (fileN id links b s)) : file t id = 0 := by
  unfold file
  rw [if_neg (by rw [hfi]; simp), kindOf_of hfi, if_neg (by show ¬ (1 : Int) = 2; decide)]
theorem make_new (h : Good t) (hs : Short t) {x : Bs} (hx : 1 < x.length) (hf : formed [x] = 0) : make t [x] 1 = ((0, 4), t) ∨ ∃ id t1, make t [x] 1 = ((id, 0), t1) ∧ id ≠ 0 ∧ find t1 id = some (fileN id 1 [] false) ∧ get (kids t1 0) x = some id := by
  rw [make_one h hs hx hf (.inl rfl)]
  split
  · exact .inl rfl
  · right
    obtain ⟨F, h1, h2, h3, h4, _, _⟩ := Rf.free_spec h
    rw [h1]
    have hF0 : (F : Int) ≠ 0 := by omega
    have hno : ∀ e ∈ t, e.nd.id ≠ (fresh (F : Int) 1).nd.id := h4
    obtain ⟨r, hr, _⟩ := h.zero
    refine ⟨(F : Int), _, rfl, hF0, ?_, ?_⟩
    · unfold put
      rw [find_upd (put_id x _), find_insE h.ris hno, if_pos (show (F : Int) = (fresh (F : Int) 1).nd.id from rfl)]
      have hF9 : F ≠ 0 := by omega
      simp [hF9, fresh, fileN]
    · have hz : find (insE t (fresh (F : Int) 1)) 0 = some r := by
        rw [find_insE h.ris hno, if_neg (fun e => hF0 e.symm), hr]
      have hk : kids (insE t (fresh (F : Int) 1)) 0 = kids t 0 := by unfold kids; rw [hz, hr]
      rw [kids_put _ _ _ _ _ (by rw [hz]; rfl), if_pos rfl, hk, get_ins (h.rises 0) _ (hs.none 0 hx), if_pos rfl]
theorem append_new {id : Int} {x b : Bs} (hb : b.length ≤ 4096) (hfi : find t id = some (fileN id 1 [] false)) (hg : get (kids t 0) x = some id) : ∃ t', append t id b = (0, t') ∧ find t' id = some (fileN id 1 b false) ∧ get (kids t' 0) x = some id := by
  unfold append
  rw [if_neg (by rw [file_new hfi]; simp), ndOf_of hfi, if_neg (show ¬ (fileN id 1 [] false).nd.shut = true by simp [fileN]), if_neg (show ¬ 4096 - (fileN id 1 [] false).nd.size < (b.length : Int) by simp [fileN]; omega)]
  refine ⟨_, rfl, ?_, ?_⟩
  · rw [find_one (f := fun e => { e with data := e.data ++ b, nd := { e.nd with size := ((e.data ++ b).length : Nat) } }) (fun _ => rfl) hfi]
    simp [fileN]
  · rw [kids_upd (f := fun e => { e with data := e.data ++ b, nd := { e.nd with size := ((e.data ++ b).length : Nat) } }) (fun _ => rfl) (fun _ => rfl)]; exact hg
theorem seal_new {id : Int} {x b : Bs} (hfi : find t id = some (fileN id 1 b false)) (hg : get (kids t 0) x = some id) : ∃ t', seal_ t id 0 = (0, t') ∧ find t' id = some (fileN id 1 b true) ∧ get (kids t' 0) x = some id := by
  unfold seal_
  rw [if_neg (by rw [file_new hfi]; simp), ndOf_of hfi, if_neg (show ¬ (fileN id 1 b false).nd.shut = true by simp [fileN]), if_neg (by omega), if_neg (show ¬ (fileN id 1 b false).nd.links = 0 by simp [fileN])]
  refine ⟨_, rfl, ?_, ?_⟩
  · rw [find_one (f := shutE 0) (fun _ => rfl) hfi]
    rfl
  · rw [kids_upd (f := shutE 0) (fun _ => rfl) (fun _ => rfl)]; exact hg
theorem link_new (h : Good t) {id : Int} (_hi : id ≠ 0) {x b : Bs} {q : List Bs} (_hx : 1 < x.length) (_hq : ∀ s ∈ q, s.length ≤ 1) (hf : formed [x] = 0) (hfi : find t id = some (fileN id 1 b true)) (hg : get (kids t 0) x = some id) : (link t [x] q).1 ≠ 0 ∨ ∃ t', link t [x] q = (0, t') ∧ formed q = 0 ∧ lookF t' 0 q = (id, 0) ∧ find t' id = some (fileN id 2 b true) ∧ get (kids t' 0) x = some id := by
  by_cases h0 : (link t [x] q).1 = 0
  case neg => exact .inl h0
  right
  have hl1 : lookF t 0 [x] = (id, 0) := look_one h hg
  have hk1 : kindOf t id = 1 := by rw [kindOf_of hfi]; rfl
  unfold link at h0 ⊢
  rw [if_neg (by rw [hf]; simp), hl1] at h0 ⊢
  dsimp only at h0 ⊢
  split at h0
  · exact absurd h0 (by assumption)
  rename_i hfq
  rw [if_neg hfq]
  rw [if_neg (by simp), if_neg (by omega)] at h0 ⊢
  split at h0
  · exact absurd h0 (by assumption)
  rename_i hp0
  rw [if_neg hp0]
  split at h0
  · cases h0
  rename_i hno
  rw [if_neg hno]
  split at h0
  · cases h0
  rename_i h64
  rw [if_neg h64]
  clear h0
  obtain ⟨r1, y, en, d, hqe, hlr, hpl, hfd, hkd, hid⟩ := h.placed (Decidable.byContradiction hp0)
  rw [hpl] at hno ⊢
  dsimp only at hno ⊢
  have hgn : get (kids t d) y = none := get_no hno
  have hs1 : (find t d).isSome = true := by rw [hfd]; rfl
  have hkd2 : kindOf t d = 2 := by rw [kindOf_of hfd]; exact hkd
  have hdi : id ≠ d := fun e => by rw [← e, hk1] at hkd2; cases hkd2
  refine ⟨_, rfl, Decidable.byContradiction hfq, ?_, ?_, ?_⟩
  · rw [look_more, hqe]
    refine lookF_snoc (look_put hs1 (h.rises d) hgn r1 0 d hlr) (by rw [kind_put]; exact hkd2) ?_
    rw [kids_put _ _ _ _ _ hs1, if_pos rfl, get_ins (h.rises d) _ hgn, if_pos rfl]
  · rw [find_more (find_put hdi hfi)]
    rfl
  · rw [kids_more, kids_put _ _ _ _ _ hs1]
    split
    · rename_i e
      subst e
      rw [get_ins (h.rises 0) _ hgn]
      split
      · rfl
      · exact hg
    · exact hg
theorem unlink_new (h : Good t) {id : Int} {x b : Bs} {q : List Bs} (hx : 1 < x.length) (hq : ∀ s ∈ q, s.length ≤ 1) (hf : formed [x] = 0) (_hfq : formed q = 0) (hlq : lookF t 0 q = (id, 0)) (hfi : find t id = some (fileN id 2 b true)) (hg : get (kids t 0) x = some id) :
    ∃ t', unlink t [x] = (0, t') ∧ lookF t' 0 [x] = (0, 20) ∧ lookF t' 0 q = (id, 0) ∧ find t' id = some (fileN id 1 b true) := by
  have hl1 : lookF t 0 [x] = (id, 0) := look_one h hg
  have hk1 : kindOf t id = 1 := by rw [kindOf_of hfi]; rfl
  have hi0 : id ≠ 0 := fun e => by rw [e, h.kind0] at hk1; cases hk1
  unfold unlink unlinked
  rw [if_neg (by rw [hf]; simp), hl1]
  dsimp only
  rw [if_neg (by simp), if_neg (by omega), ndOf_of hfi, if_neg (by simp [fileN]), place_one h]
  dsimp only
  have hc0 : lookF (cut t 0 x) 0 ([] : List Bs) = (0, 0) := rfl
  refine ⟨_, rfl, ?_, ?_, ?_⟩
  · rw [look_more]
    have := lookF_snoc_no (t := cut t 0 x) (i := 0) (d := 0) (q := []) (x := x) rfl (by rw [kind_cut]; exact h.kind0) (by rw [kids_cut, if_pos rfl, get_del, if_pos rfl])
    exact this
  · rw [look_more]
    refine h.look_cut (q1 := []) rfl h.kind0 _ q id rfl hlq fun hpre => ?_
    have := hq x (hpre.subset (by simp))
    omega
  · rw [find_more (find_cut hi0 hfi)]
    rfl
theorem unlink_last {id : Int} {b : Bs} {q : List Bs} (hfq : formed q = 0) (hlq : lookF t 0 q = (id, 0)) (hfi : find t id = some (fileN id 1 b true)) : ∃ t', unlink t q = (0, t') ∧ find t' id = none := by
  have hk1 : kindOf t id = 1 := by rw [kindOf_of hfi]; rfl
  unfold unlink
  rw [if_neg (by rw [hfq]; simp), hlq]
  dsimp only
  rw [if_neg (by simp), if_neg (by omega), ndOf_of hfi, if_pos ⟨rfl, rfl⟩]
  refine ⟨_, rfl, ?_⟩
  rw [find_remove, if_pos rfl]
theorem read_all {id links : Int} {b : Bs} {s : Bool} (hb : b.length ≤ 4096) (hfi : find t id = some (fileN id links b s)) : read t id 0 4096 = (b, 0) := by
  unfold read
  rw [if_neg (by rw [file_new hfi]; simp), dataOf_of hfi, if_neg (by decide)]
  show ((b.drop 0).take 4096, 0) = (b, 0)
  rw [List.drop_zero, List.take_of_length_le hb]
end Tr
end Go.Proofs.YtombmeppdhhjhaaGreat
