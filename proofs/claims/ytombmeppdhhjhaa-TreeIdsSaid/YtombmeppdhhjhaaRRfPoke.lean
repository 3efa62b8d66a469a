/-
  OWN WORK. The document's tree: its nodes copied, one field of one of them put; links.
-/
import Derived.Test.YtombmeppdhhjhaaRRfPlace
import Derived.StillTailTactics
namespace Go.Proofs.Ytombmeppdhhjhaa
open Go.RowKit Rc
open Tr (Nm En T)
namespace Rf
variable {p : Nat} {nv dv ev : Value} {D : Nat → Prop} {t t' : T} {w w1 w2 : World}
theorem row_set {α : Type} (f : α → List Value) (k : Nat) (hk : ∀ a, (f a).length = k) : ∀ (l : List α) (j c : Nat) (a b : α) (u : Value), l[j]? = some a → c < k → (f a).set c u = f b → (l.flatMap f).set (j * k + c) u = (l.set j b).flatMap f
  | x :: l, 0, c, a, b, u, h, hc, hs => by
    obtain rfl : x = a := by simpa using h
    rw [List.set_cons_zero, List.flatMap_cons, List.flatMap_cons, Nat.zero_mul, Nat.zero_add, ← hs, List.set_append_left _ _ (by rw [hk]; exact hc)]
  | x :: l, j + 1, c, a, b, u, h, hc, hs => by
    rw [List.set_cons_succ, List.flatMap_cons, List.flatMap_cons, show (j + 1) * k + c = (f x).length + (j * k + c) by rw [hk, Nat.add_mul]; omega, List.set_append_right _ _ (by omega), Nat.add_sub_cancel_left, row_set f k hk l j c a b u (by simpa using h) hc hs]
/-- A cell of a row of a call's own is put. -/
theorem own_set {B e k n g c i : Nat} {xs : List Value} {u : Value} (h : w.ownsRow B e k (.slice (some ⟨g, 0, none⟩) n c) n xs) (hi : i < xs.length) : (w.setCell ⟨g, i, none⟩ u).ownsRow B e k (.slice (some ⟨g, 0, none⟩) n c) n (xs.set i u) ∧ w.frozen? ⟨g, i, none⟩ = false ∧ g < w.heap.size := by
  rcases h.2 with ⟨h1, _⟩ | ⟨g', cap, cur, he, hb, hg, hn, hm, hsz, hx⟩
  · cases h1
  · injection he with e1 _ e3
    injection e1 with e1
    injection e1 with e1
    subst e1 e3
    have hg2 : (w.setCell ⟨g, i, none⟩ u).heap[g]? = some (.cells (cur.set! i u) e (0, 0)) := by
      simp [World.setCell, Array.getElem?_modify, hg, Array.set!_eq_setIfInBounds]
    refine ⟨⟨by rw [List.length_set]; exact h.1, .inr ⟨g, c, cur.set! i u, rfl, hb, hg2, hn, hm, by simpa using hsz, ?_⟩⟩, by simp [World.frozen?, hg], (Array.getElem?_eq_some_iff.1 hg).1⟩
    rw [← hx]
    simp [List.take_set]
theorem nd_maps_set {j : Nat} {e e' : En} (he : t[j]? = some e) (hd : e'.data = e.data) (hn : e'.names = e.names) (hi : e'.nd.id = e.nd.id) : (t.set j e').map (·.data) = t.map (·.data) ∧ Tr.flat (t.set j e') = Tr.flat t := by
  have key : ∀ (l : T) (j : Nat), l[j]? = some e → (l.set j e').map (·.data) = l.map (·.data) ∧ Tr.flat (l.set j e') = Tr.flat l := by
    intro l
    induction l with
    | nil => intro j h; simp at h
    | cons a l ih =>
      intro j h
      cases j with
      | zero =>
        obtain rfl : a = e := by simpa using h
        refine ⟨by simp [hd], ?_⟩
        show e'.names.map (fun n => (e'.nd.id, n)) ++ Tr.flat l = a.names.map (fun n => (a.nd.id, n)) ++ Tr.flat l
        rw [hn, hi]
      | succ j =>
        obtain ⟨h1, h2⟩ := ih j (by simpa using h)
        refine ⟨by rw [List.set_cons_succ, List.map_cons, List.map_cons, h1], ?_⟩
        show a.names.map (fun n => (a.nd.id, n)) ++ Tr.flat (l.set j e') = a.names.map (fun n => (a.nd.id, n)) ++ Tr.flat l
        rw [h2]
  exact key t j he
/-- One field of a node is put. -/
theorem RA.poke {g c j f : Nat} {e e' : En} {u : Value} (h : RA p (.slice (some ⟨g, 0, none⟩) t.length c) dv ev D t w) (he : t[j]? = some e) (hf : f < 6) (hc : (ndCell e.nd).set f u = ndCell e'.nd) (hd : e'.data = e.data) (hn : e'.names = e.names) (hi : e'.nd.id = e.nd.id) :
    Left p (t.set j e') (RS p (.slice (some ⟨g, 0, none⟩) t.length c) ev D) w (w.setCell ⟨g, j * 6 + f, none⟩ u) (.slice (some ⟨g, 0, none⟩) t.length c) dv ev D := by
  have hjl : j < t.length := (List.getElem?_eq_some_iff.1 he).1
  obtain ⟨k1, k2, k3⟩ := own_set (i := j * 6 + f) (u := u) h.in_.nodes (by rw [ndCells_length]; omega)
  obtain ⟨m1, m2⟩ := nd_maps_set he hd hn hi
  have hg0 : (Value.slice (some ⟨g, 0, none⟩) t.length c).ownBlock = some g := rfl
  have hgs : RS p (.slice (some ⟨g, 0, none⟩) t.length c) ev D g := .inr (.inl hg0)
  have hh : ∀ b, b ≠ g → (w.setCell ⟨g, j * 6 + f, none⟩ u).heap[b]? = w.heap[b]? := fun b hb => Below.heap_setCell _ _ _ _ hb
  have hsz : (w.setCell ⟨g, j * 6 + f, none⟩ u).heap.size = w.heap.size := by simp [World.setCell]
  have hcells : (ndCells t).set (j * 6 + f) u = ndCells (t.set j e') := row_set (fun e : En => ndCell e.nd) 6 (fun _ => rfl) t j f e e' u he hf hc
  refine ⟨⟨⟨?_, ?_, ?_, ?_⟩, fun b hD => ?_⟩, ⟨rfl, rfl, rfl, by rw [hsz]; exact Nat.le_refl _, fun k _ hk => hh k fun e => hk (e ▸ hgs)⟩, fun b hb => .inl hb⟩
  · exact (hh p fun e => h.np.1 (e ▸ hg0)).trans h.in_.box
  · rw [List.length_set, ← hcells]; exact k1
  · rw [m2]
    exact Tm.own_keep h.in_.ents fun b hb => hh b fun e => h.np.2.2 g hg0 (e ▸ hb)
  · rw [m1]
    exact h.in_.data.keep (by rw [hsz]; exact Nat.le_refl _) fun b hD => hh b fun e => (h.apart b hD).2.2.1 (e ▸ hg0)
  · obtain ⟨q1, q2, q3, q4⟩ := h.apart b hD
    exact ⟨by rw [hsz]; exact q1, q2, q3, q4⟩
/-- What the copy of the nodes is, once it is put. -/
theorem RA.copied (h : RA p nv dv ev D t w) (hpos : 0 < t.length) {v2 : Value} (ho : w2.ownsRow w.heap.size 38 6 v2 t.length (ndCells t)) (hg : (w.alloc (.cells #[] 38)).grownBy w2 (Value.slice (some ⟨w.heap.size, 0, none⟩) 0 0).ownBlock) :
    ∃ g c, v2 = .slice (some ⟨g, 0, none⟩) t.length c ∧ w2.cell? ⟨p, 0, none⟩ = some nv ∧ w2.frozen? ⟨p, 0, none⟩ = false ∧ Hid (Left p t (RS p nv ev D) w (w2.setCell ⟨p, 0, none⟩ v2) v2 dv ev D) := by
  have hb : Below w.heap.size w w2 := by
    have hb1 := below_new w (.cells #[] 38)
    exact ⟨hg.os.trans hb1.os, hg.tape.trans hb1.tape, hg.output.trans hb1.output, Nat.le_trans hb1.size hg.size, fun b hb2 => (hg.block b (Nat.lt_of_lt_of_le hb2 hb1.size) fun e => by simp [Value.ownBlock] at e; omega).trans (hb1.block b hb2)⟩
  obtain ⟨A, c, h1, _, h2⟩ := Tm.own_form ho
  obtain ⟨g, rfl, hg1, hg2, _⟩ := h2 hpos
  obtain ⟨k1, k2⟩ := h.box_to hb 0 v2
  have hbx := (h.below hb).in_.box
  refine ⟨g, c, h1, hbx.cell 0, hbx.frozen 0, ?_⟩
  have hgp : g ≠ p := by have := h.in_.box.lt; omega
  refine h.nodes (t' := t) (nv' := v2) k1 k2 (Tm.own_keep ho fun b hb2 => Below.heap_setCell _ _ _ _ fun e => ?_) rfl rfl
  have e2 : b = p := e
  rw [hg1] at hb2
  injection hb2 with hb2
  omega
/-- What is read of a node. -/
theorem RA.ndcell {g c j : Nat} {e : En} (h : RA p (.slice (some ⟨g, 0, none⟩) t.length c) dv ev D t w) (he : t[j]? = some e) (f : Nat) (hf : f < 6) : w.cell? ⟨g, j * 6 + f, none⟩ = (ndCell e.nd)[f]? ∧ w.frozen? ⟨g, j * 6 + f, none⟩ = false := by
  have hjl : j < t.length := (List.getElem?_eq_some_iff.1 he).1
  have k := own_set (i := j * 6 + f) (u := .bool true) h.in_.nodes (by rw [ndCells_length]; omega)
  obtain ⟨A, c2, h1, _, h2⟩ := Tm.own_form h.in_.nodes
  injection h1 with e1 _ _
  subst e1
  obtain ⟨g', hg, _, _, _, h3⟩ := h2 (by omega)
  injection hg with hg
  injection hg with hg
  subst hg
  refine ⟨?_, k.2.1⟩
  have e1 := nd_get he f hf
  obtain ⟨x, hx⟩ : ∃ x, (ndCell e.nd)[f]? = some x := ⟨_, List.getElem?_eq_getElem (by show f < 6; exact hf)⟩
  rw [hx] at e1 ⊢
  exact h3 _ _ e1
set_option maxHeartbeats 2000000 in
set_option maxRecDepth 100000 in
theorem links_any (h : RA p nv dv ev D t w) (hr : Tr.Ris t) (hfew : t.length ≤ 1000000) {i : Int} {e : En} (hf : Tr.find t i = some e) (b : Int) (hb : -1 ≤ b ∧ b ≤ 1) (hl : 0 ≤ e.nd.links ∧ e.nd.links ≤ 70000) :
    Calls Try.prog 85 #[.pointer (some ⟨p, 0, none⟩), .int .i64 i, .int .i64 b] w (RTurn p (Tr.more t i b) (.tuple #[]) (RS p nv ev D) w) := by
  have HAT := Lib.hid (at_any h.in_ i hfew)
  rcases idx_find t i with ⟨h1, _⟩ | ⟨e', j, h1, h2, h3, h4⟩
  · rw [h1] at hf; cases hf
  rw [hf] at h1
  injection h1 with h1
  subst h1
  rw [h3] at HAT
  have hid : e.nd.id = i := (Tr.find_some hf).2
  have hmore : Tr.more t i b = t.set j { e with nd := { e.nd with links := e.nd.links + b } } := upd_at hr h2 hid _
  rw [hmore]
  have hpos : 0 < t.length := by omega
  have HCO : Hid (∀ w2 v2, w2.ownsRow w.heap.size 38 6 v2 t.length (ndCells t) → (w.alloc (.cells #[] 38)).grownBy w2 (Value.slice (some ⟨w.heap.size, 0, none⟩) 0 0).ownBlock → ∃ g c, v2 = .slice (some ⟨g, 0, none⟩) t.length c ∧ w2.cell? ⟨p, 0, none⟩ = some nv ∧ w2.frozen? ⟨p, 0, none⟩ = false ∧ Hid (Left p t (RS p nv ev D) w (w2.setCell ⟨p, 0, none⟩ v2) v2 dv ev D)) := fun w2 v2 ho hg => h.copied hpos ho hg
  obtain ⟨A, c, hnv, hnc, hS⟩ := srcs h.in_.nodes h.np.1
  have HS0 : Hid (Src (w.alloc (.cells #[] 38)) A (ndCells t)) := (hS _ (Mod.of_below (below_new w _) _)).1
  have HO0 : Hid ((w.alloc (.cells #[] 38)).ownsRow w.heap.size 38 6 (.slice (some ⟨w.heap.size, 0, none⟩) 0 0) 0 []) := none_own w _ _
  have HL0 := Lib.hid (ndCells_length t)
  have HFEW := Lib.hid hfew
  have HHS : Hid (w.heap.size ≤ (w.alloc (.cells #[] 38)).heap.size) := (below_new w _).size
  have HJ := Lib.hid h2
  have hjl : (j : Int) < (t.length : Int) := by omega
  have cp : (w.alloc (.cells #[] 38)).cell? ⟨p, 0, none⟩ = some nv := (h.below (below_new w _)).in_.box.cell 0
  have cp0 : w.cell? ⟨p, 0, none⟩ = some nv := h.in_.box.cell 0
  have hw1 : IntKind.i64.wrap (e.nd.links + b) = e.nd.links + b := by rw [IntKind.wrap_i64]; omega
  subst hnv
  clear h hr hfew hf hb hl h2 h3 h4 hid hmore hpos hS hnc
  go_enter Try.func85, Try.ntmps85
  go_wp2_with fail
  refine HAT.out.mono ?_
  rintro e1 w1 ⟨rfl, rfl⟩
  go_upto_region 1 with (fail)
  go_wp2_with (at_builtin; refine wpList_cat nodeTy rfl (.tmp 11) (.tmp 15) (by rfl) (by rfl) (by rfl) HO0.out HS0.out HL0.out (ndCells_one _) (by have := HFEW.out; omega) HHS.out (Nat.zero_add _).symm (List.nil_append _).symm ?_; intro v2 w2 HO2 HG2 HP2; obtain ⟨g, c2, hv2, hc2, hf2, HLF⟩ := HCO.out w2 v2 HO2.out HG2.out; subst hv2)
  obtain ⟨W3, hW3⟩ : ∃ W3, W3 = w2.setCell ⟨p, 0, none⟩ (.slice (some ⟨g, 0, none⟩) t.length c2) := ⟨_, rfl⟩
  rw [← hW3] at HLF ⊢
  have hra := HLF.out.ra
  have c3 : W3.cell? ⟨p, 0, none⟩ = some (.slice (some ⟨g, 0, none⟩) t.length c2) := hra.in_.box.cell 0
  obtain ⟨d2, f2⟩ := hra.ndcell HJ.out 2 (by omega)
  have d3 : W3.cell? ⟨g, j * 6 + 2, none⟩ = some (.int .i64 e.nd.links) := d2
  have d0 : W3.cell? ⟨p, 0, none⟩ = some (.slice (some ⟨g, 0, none⟩) t.length c2) := c3
  have HLD : Hid (Left p t (RS p (.slice A t.length c) ev D) w1 W3.drew (.slice (some ⟨g, 0, none⟩) t.length c2) dv ev D) := HLF.out.later (undrewR (Below.refl _ _))
  clear hW3 hra d2 HLF HCO HO2 HG2 HP2 HS0 HO0 HL0 HHS HAT HFEW cp cp0 hc2 hf2
  go_still_tail 17, (by kernel_rfl)
  change wpList _ _ _ _ _ W3.drew
  have c4 : W3.drew.cell? ⟨g, j * 6 + 2, none⟩ = some (.int .i64 e.nd.links) := d3
  have f4 : W3.drew.frozen? ⟨g, j * 6 + 2, none⟩ = false := f2
  generalize W3.drew = W4 at *
  have HEND : Hid (RTurn p (t.set j { e with nd := { e.nd with links := e.nd.links + b } }) (.tuple #[]) (RS p (.slice A t.length c) ev D) w1 (.returned (.tuple #[])) (W4.setCell ⟨g, j * 6 + 2, none⟩ (.int .i64 (e.nd.links + b)))) := (HLD.out.then (HLD.out.ra.poke (e' := { e with nd := { e.nd with links := e.nd.links + b } }) (u := .int .i64 (e.nd.links + b)) HJ.out (f := 2) (by omega) rfl rfl rfl rfl)).turn
  clear HLD
  go_wp2_with fail
  refine bodyPost_end (results_none rfl _ _ _) rfl ?_
  exact HEND.out
end Rf
end Go.Proofs.Ytombmeppdhhjhaa
