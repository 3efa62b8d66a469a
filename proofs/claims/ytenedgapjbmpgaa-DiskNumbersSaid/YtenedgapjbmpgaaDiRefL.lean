/-
  OWN WORK. The document's disk: Flush, by its contract.
-/
import Derived.Test.YtenedgapjbmpgaaDiRefW
namespace Go.Proofs.Ytenedgapjbmpgaa
open Go.RowKit Rc Di

theorem Try.infoBool : (Try.prog.info? 4).map (fun i => (i.zero, i.size, i.bytes)) = some (some (.bool false), 1, 1) := by kernel_rfl
theorem made_bools (n : Nat) : (madeCells (Value.bool false).cells (n * 1)).toList = (List.replicate n false).map Value.bool := by
  apply List.ext_getElem
  · simp [madeCells]
  · intro i h1 h2
    simp [madeCells, Value.cells]
    rw [Nat.mod_one]; rfl
/-- A row of flags that is made: none is set. -/
theorem make_flags (w : World) (n : Nat) (hn : n ≤ 1000000) (hpos : 0 < n) : ∃ w', (Instr.makeSlice 31 (.int .i64 (n : Int)) (.int .i64 (n : Int))).run Try.prog w = .ok (.slice (some ⟨w.heap.size, 0, none⟩) n n) w' ∧ Below w.heap.size w w' ∧ Blk w' w.heap.size 4 ((List.replicate n false).map Value.bool) := by
  obtain ⟨i0, hi, hz0, hz1, hz2⟩ : ∃ i0, Try.prog.info? 4 = some i0 ∧ i0.zero = some (.bool false) ∧ i0.size = 1 ∧ i0.bytes = 1 := by
    have h := Try.infoBool
    simp only [Option.map_eq_some_iff, Prod.mk.injEq] at h
    obtain ⟨i0, h1, h2, h3, h4⟩ := h
    exact ⟨i0, h1, h2, h3, h4⟩
  obtain ⟨w5, hrun, r1, r2⟩ := run_make_full (P := Try.prog) w w.heap.size 31 4 i0 (.bool false) 1 Try.underlying31 hi hz0 hz1 .i64 .i64 n (by rw [hz2]; omega) (by unfold maxLen; omega) (Nat.le_refl _)
  rw [made_bools] at r1
  refine ⟨w5, hrun, (Below.refl _ _).grown r2 (Nat.le_refl _) (fun k hk => by cases hk), ?_⟩
  rcases r1.2 with ⟨h1, _⟩ | ⟨g', cap, cur, h1, h2, h3, h4, h5, h6, h7⟩
  · cases h1
  · injection h1 with h1 _ h1c
    injection h1 with h1
    injection h1 with h1
    subst h1 h1c
    have hc : cur.toList = (List.replicate n false).map Value.bool := by rw [← h7, List.take_of_length_le (by simp [h6])]
    show w5.heap[w.heap.size]? = _
    rw [h3, ← hc]
def FlushOut (N : Nat) (st : Dk) (v : Value) (S : Nat → Prop) (w : World) (e : Ending) (w' : World) : Prop := ∃ x, Ob.Turns (refObj N) v st x S w e w'
set_option maxHeartbeats 2000000 in
set_option maxRecDepth 100000 in
theorem refFlush_any {N : Nat} {v : Value} {st : Dk} {S : Nat → Prop} {w : World} (h : RefAt N v st S w) :
    Calls Try.prog 29 #[v] w (FlushOut N st.flush v S w) := by
  have HH := Lib.hid h
  obtain ⟨g, gs, gn, gd, rfl, h1, h2, h3, h4, ⟨n1, n2, n3, n4, n5, n6⟩, hok, hS, hNN⟩ := h
  have HNN : Hid (gn = N) := hNN
  clear hNN
  have cs0 : w.cell? ⟨g, 0, none⟩ = some (.slice (some ⟨gs, 0, none⟩) (128 * st.dirty.length) (128 * st.dirty.length)) := h1.cell 0
  have cn0 : w.cell? ⟨g, 1, none⟩ = some (.slice (some ⟨gn, 0, none⟩) (128 * st.dirty.length) (128 * st.dirty.length)) := h1.cell 1
  obtain ⟨n, hn⟩ : ∃ n, n = st.dirty.length := ⟨_, rfl⟩
  have hn4 : n ≤ 4096 := by rw [hn]; exact hok.hi
  have hnf : st.now.flatten.length = 128 * n := by rw [flat_length _ hok.snow, hok.now, hn]
  have hsf : st.safe.flatten.length = 128 * n := by rw [flat_length _ hok.ssafe, hok.safe, hn]
  rw [← hn] at cs0 cn0
  obtain ⟨w1, hcp, hb1, hkp⟩ := copy_row w.drew gs 0 st.safe.flatten (show Blk w.drew gs _ _ from h2) st.now.flatten (some ⟨gn, 0, none⟩) (128 * n) (128 * n) (128 * n) (128 * n) (rd_of_blk (show Blk w.drew gn _ _ from h3)) hnf (Nat.le_refl _) (by omega)
  rw [hnf] at hcp
  have e1 : st.safe.flatten.take 0 ++ (st.now.flatten ++ st.safe.flatten.drop (0 + 128 * n)) = st.now.flatten := by
    rw [List.take_zero, List.nil_append, Nat.zero_add, List.drop_of_length_le (by omega), List.append_nil]
  rw [e1] at hb1
  have keep1 : ∀ x, x ≠ gs → x < w.heap.size → w1.heap[x]? = w.heap[x]? := fun x hx hlt => hkp.block x hlt (fun e => hx (by injection e))
  have H1b : Hid (Blk w1 g 38 [.slice (some ⟨gs, 0, none⟩) (128 * n) (128 * n), .slice (some ⟨gn, 0, none⟩) (128 * n) (128 * n), .slice (some ⟨gd, 0, none⟩) n n, .int .i64 (st.writes : Nat)]) := by
    show _ = _
    rw [keep1 g n1 h1.lt, hn]; exact h1
  have H2b : Hid (Blk w1 gs 5 (Lib.byteCells st.now.flatten)) := hb1
  have H3b : Hid (Blk w1 gn 5 (Lib.byteCells st.now.flatten)) := (keep1 gn (fun e => n4 e.symm) h3.lt).trans h3
  have HM1 : Hid (Mod w w1 (fun b => b = gs)) := (mod_keeps hkp).undrew
  obtain ⟨w2, hmk, hb2, hbl2⟩ := make_flags w1 n (by omega) (by have := hok.lo; omega)
  have H1c := Lib.hid (H1b.out.below hb2 H1b.out.lt)
  have H2c := Lib.hid (H2b.out.below hb2 H2b.out.lt)
  have H3c := Lib.hid (H3b.out.below hb2 H3b.out.lt)
  have lg := H1b.out.lt
  have ls := H2b.out.lt
  have ln := H3b.out.lt
  obtain ⟨gx, hgx⟩ : ∃ gx, gx = w1.heap.size := ⟨_, rfl⟩
  rw [← hgx] at hmk hbl2 lg ls ln
  have cd1 : w1.cell? ⟨g, 2, none⟩ = some (.slice (some ⟨gd, 0, none⟩) n n) := H1b.out.cell 2
  have cd2 : w2.cell? ⟨g, 2, none⟩ = some (.slice (some ⟨gd, 0, none⟩) n n) := H1c.out.cell 2
  have fd2 : w2.frozen? ⟨g, 2, none⟩ = false := H1c.out.frozen 2
  have HEND : Hid (FlushOut N st.flush (.pointer (some ⟨g, 0, none⟩)) S w (.returned (.tuple #[])) (w2.setCell ⟨g, 2, none⟩ (.slice (some ⟨gx, 0, none⟩) n n))) := by
    have hd : st.flush.dirty.length = n := by show (List.replicate st.dirty.length false).length = n; rw [List.length_replicate, hn]
    refine ⟨_, rfl, fun b => b = g ∨ b = gs ∨ b = gn ∨ b = gx, ⟨g, gs, gn, gx, rfl, ?_, ?_, ?_, ?_, ⟨n1, n2, by omega, n4, by omega, by omega⟩, hok.flush, rfl, HNN.out⟩, ?_, ?_⟩
    · have := H1c.out.set_ 2 (.slice (some ⟨gx, 0, none⟩) n n)
      rw [hd]
      exact this
    · exact H2c.out.far (p := ⟨g, 2, none⟩) (fun e => n1 e.symm) _
    · exact H3c.out.far (p := ⟨g, 2, none⟩) (fun e => n2 e.symm) _
    · have := hbl2.far (p := ⟨g, 2, none⟩) (by show gx ≠ g; omega) (.slice (some ⟨gx, 0, none⟩) n n)
      show Blk _ gx _ ((List.replicate st.dirty.length false).map Value.bool)
      rw [← hn]
      exact this
    · have m1 := HM1.out.mono (Y := S) (fun b _ hb => by rw [hS]; exact .inr (.inl hb))
      have m2 := Mod.of_below hb2 S
      have m3 := (mod_keeps ((Keeps.refl w2 g).setCell 2 (.slice (some ⟨gx, 0, none⟩) n n))).mono (Y := S) (fun b _ hb => by rw [hS]; exact .inl hb)
      exact (m1.trans m2).trans m3
    · have hsz := HM1.out.size
      rintro b (rfl | rfl | rfl | rfl)
      · exact .inl (by rw [hS]; exact .inl rfl)
      · exact .inl (by rw [hS]; exact .inr (.inl rfl))
      · exact .inl (by rw [hS]; exact .inr (.inr (.inl rfl)))
      · exact .inr (by omega)
  have HCP := Lib.hid hcp
  have HMK := Lib.hid hmk
  clear e1 hcp hmk keep1 hb1 hkp hb2 hbl2 H1b H2b H3b H1c H2c H3c HM1 lg ls ln hgx h1 h2 h3 h4 hok hS n1 n2 n3 n4 n5 n6 hn hnf hsf HH
  go_enter Try.func29, Try.ntmps29
  go_upto_region 0 with (fail)
  go_still_tail 8, (by kernel_rfl)
  have hcp := HCP.out
  have hmk := HMK.out
  go_wp2_with fail
  refine bodyPost_end (results_none rfl _ _ _) rfl ?_
  exact HEND.out
end Go.Proofs.Ytenedgapjbmpgaa
