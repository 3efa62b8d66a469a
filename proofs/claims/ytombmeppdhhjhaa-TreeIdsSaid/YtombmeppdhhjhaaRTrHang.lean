/-
  OWN WORK. One text behind a row of texts: the row without it comes back in later worlds.
-/
import Derived.Test.YtombmeppdhhjhaaR03
import Derived.Test.YtombmeppdhhjhaaR02
namespace Go.Proofs.Ytombmeppdhhjhaa
open Go.RowKit Rc
open Tr (Nm En T)
namespace Tm
/-- A row of texts of a call's own. -/
def SOwn (w : World) (v : Value) (l : List Bs) : Prop := w.ownsRow 0 9 1 v l.length (txtCells l)
theorem SOwn.nil (w : World) : SOwn w (.slice none 0 0) [] := ⟨rfl, .inl ⟨rfl, rfl⟩⟩
theorem SOwn.keep {w w' : World} {v : Value} {l : List Bs} (h : SOwn w v l) (hb : ∀ b, v.ownBlock = some b → w'.heap[b]? = w.heap[b]?) : SOwn w' v l := own_keep h hb
theorem SOwn.lt {w : World} {v : Value} {l : List Bs} (h : SOwn w v l) {b : Nat} (hb : v.ownBlock = some b) : b < w.heap.size := (own_blk h hb).2.1
theorem SOwn.form {w : World} {v : Value} {l : List Bs} (h : SOwn w v l) : ∃ A c, v = .slice A l.length c ∧ l.length ≤ c ∧ RdS w A l ∧ ∀ b, 0 < l.length → A.map (·.block) = some b → v.ownBlock = some b := by
  obtain ⟨A, c, h1, h2, h3⟩ := own_form h
  refine ⟨A, c, h1, h2, fun hl => ?_, fun b hl hb => ?_⟩
  · obtain ⟨g, h4, h5, h6, h7, h8⟩ := h3 hl
    exact ⟨g, 0, h4, h7, fun j x hx => by rw [Nat.zero_add]; exact h8 j _ (by simp [txtCells, hx])⟩
  · obtain ⟨g, h4, h5, h6, h7, h8⟩ := h3 hl
    rw [h4] at hb
    simp only [Option.map_some, Option.some.injEq] at hb
    rw [h5, hb]
theorem txt_take (l : List Bs) (x : Bs) {c : List Value} (h : c.take ((l ++ [x]).length * 1) = txtCells (l ++ [x])) : c.take (l.length * 1) = txtCells l := by
  have h1 : (c.take ((l ++ [x]).length * 1)).take (l.length * 1) = c.take (l.length * 1) := by
    rw [List.take_take]
    congr 1
    rw [List.length_append]
    omega
  rw [← h1, h, txtCells_append, Nat.mul_one]
  have : l.length = (txtCells l).length := (txtCells_length l).symm
  rw [this]
  exact List.take_left
theorem run_append_kept (w : World) (v : Value) (a : List Bs) (hown : SOwn w v a) (A : Option Addr) (x : Bs) (c : Nat) (hr : RdS w A [x]) (hn : a.length ≤ 1000000) (ty : TypeId) :
    ∃ v' w', (Builtin.append_ #[28, 28] ty #[v, .slice A 1 c]).run Try.prog w = .ok v' w' ∧ SOwn w' v' (a ++ [x]) ∧ w.grownBy w' v.ownBlock ∧ (v'.ownBlock = v.ownBlock ∨ v'.ownBlock = some w.heap.size) ∧
    ∀ W, SOwn W v' (a ++ [x]) → (∀ b, v.ownBlock = some b → v'.ownBlock ≠ some b → W.heap[b]? = w'.heap[b]?) → SOwn W v a := by
  obtain ⟨i, hi, hz, hsize, hby⟩ := info_parts Try.infoStr
  obtain ⟨b0, off, rfl, hb0, hcell⟩ := hr (by simp)
  have hnews : ∀ j u, ([.string (strOf x)] : List Value)[j]? = some u → w.cell? ((⟨b0, off, none⟩ : Addr).add j) = some u := by
    intro j u hu
    have hj : j = 0 := by
      have := (List.getElem?_eq_some_iff.1 hu).1
      simpa using this
    subst hj
    obtain rfl : Value.string (strOf x) = u := by simpa using hu
    rw [add_plain]
    exact hcell 0 x rfl
  have h1c : ∀ u ∈ ([.string (strOf x)] : List Value), u.oneCell' = true := fun u hu => by
    obtain rfl := List.mem_singleton.1 hu
    rfl
  obtain ⟨v', w', h1, h2, h3, _, h5⟩ := run_append_own_at (P := Try.prog) w 0 28 ty 9 i (.string .empty) 1 16 Try.underlying28 hi hz hsize hby rfl (by decide) v a.length (txtCells a) hown ⟨b0, off, none⟩ 1 c [.string (strOf x)] rfl hnews h1c (by unfold maxLen; omega) (by omega) (Nat.zero_le _)
  have hown2 : SOwn w' v' (a ++ [x]) := by
    unfold SOwn
    rw [List.length_append, txtCells_append]
    exact h2
  refine ⟨v', w', h1, hown2, h3, h5, fun W hW hb => ?_⟩
  rcases hown.2 with ⟨rfl, h0⟩ | ⟨g, cap, cur, rfl, hbg, hg, hnc, hcm, hcs, htake⟩
  · exact ⟨hown.1, .inl ⟨rfl, h0⟩⟩
  · have hgl : g < w.heap.size := (Array.getElem?_eq_some_iff.1 hg).1
    by_cases hroom : a.length + 1 ≤ cap
    · have hr2 := run_append_room (P := Try.prog) w 28 ty 9 i Try.underlying28 hi g a.length cap cur hg ⟨b0, off, none⟩ 1 c [.string (strOf x)] (by rw [hsize]; rfl) hnews h1c hroom (by rw [hsize, hcs]; simp; omega)
      rw [h1] at hr2
      injection hr2 with e1 e2
      subst e1
      rcases hW.2 with ⟨hcon, _⟩ | ⟨g', cap', cur', e, hbg', hg', hnc', hcm', hcs', htake'⟩
      · cases hcon
      · injection e with e3 e4 e5
        injection e3 with e3
        injection e3 with e3
        subst e3 e5
        exact ⟨hown.1, .inr ⟨g, cap, cur', rfl, hbg, hg', hnc, hcm, hcs', txt_take a x htake'⟩⟩
    · have holds : ∀ j u, (txtCells a)[j]? = some u → w.cell? ((⟨g, 0, none⟩ : Addr).add j) = some u := World.ownsRow.cells (g := g) hown rfl
      have hr2 := run_append_grow (P := Try.prog) w 28 ty 9 i (.string .empty) Try.underlying28 hi hz ⟨g, 0, none⟩ a.length cap (txtCells a) (by rw [hsize]; exact hown.1) holds ⟨b0, off, none⟩ 1 c [.string (strOf x)] (by rw [hsize]; rfl) hnews (by omega) (by omega) (growslice_fits (by omega) (by rw [hby]; omega))
      rw [h1] at hr2
      injection hr2 with e1 e2
      have h9 : v'.ownBlock ≠ some g := by
        rw [e1]
        simp only [Value.ownBlock, ne_eq, Option.some.injEq]
        omega
      refine SOwn.keep hown fun b hb2 => ?_
      simp only [Value.ownBlock, Option.some.injEq] at hb2
      subst hb2
      rw [hb _ rfl h9, e2]
      exact (below_new w.drew _).block _ hgl
theorem wpList_append_kept {w : World} {ops : Array Oper} {rest : List Oper} {o : Oper} {a : Act} {Q : Exit → Act → World → Prop} (hgd : Region.wanted o (yielded ops a.tmps) = true) (s x : Operand)
    (ho : o.op = .call { callee := .builtin .append, args := #[s, x], argTypes := #[28, 28] })
    {v : Value} {l : List Bs} (hs : a.eval s = v) (hown : SOwn w v l) (A : Option Addr) (y : Bs) (c : Nat) (hx : a.eval x = .slice A 1 c) (hr : RdS w A [y]) (hn : l.length ≤ 1000000)
    (h : ∀ v' w', Hid (SOwn w' v' (l ++ [y])) → Hid (w.grownBy w' v.ownBlock) → Hid (v'.ownBlock = v.ownBlock ∨ v'.ownBlock = some w.heap.size) → Hid (∀ W, SOwn W v' (l ++ [y]) → (∀ b, v.ownBlock = some b → v'.ownBlock ≠ some b → W.heap[b]? = w'.heap[b]?) → SOwn W v l) → wpList Try.prog ops Q rest (a.put o.dst v') w') : wpList Try.prog ops Q (o :: rest) a w := by
  refine wpList_step fun K hK => ?_
  rw [if_pos hgd]
  obtain ⟨v', w', hrun, h1, h2, h3, h4⟩ := run_append_kept w v l hown A y c hr hn o.type
  unfold Oper.wp
  simp [execOp, ho, resolve, invoke, builtin, hs, hx, hrun, Result.andThen]
  exact hK _ _ (h v' w' h1 h2 h3 h4)
end Tm
end Go.Proofs.Ytombmeppdhhjhaa
