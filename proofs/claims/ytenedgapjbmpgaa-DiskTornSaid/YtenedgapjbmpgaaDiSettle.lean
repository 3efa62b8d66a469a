/-
  OWN WORK. The program's disk: a sector is settled.
-/
import Derived.Test.YtenedgapjbmpgaaDiSec
namespace Go.Proofs.Ytenedgapjbmpgaa
open Go.RowKit Rc Di

theorem copy_in (w : World) (g t off soff dLen dCap cap m : Nat) (cur : List Value) (hcur : Blk w g t cur) (L : List UInt8) (A : Option Addr) (hr : Rd w A L) (hm : L.length = m) (hs : soff = Nat.min m dLen) (hfit : off + soff ≤ cur.length) :
    ∃ w', (Builtin.copy_ #[27, 27] 3 #[.slice (some ⟨g, off, none⟩) dLen dCap, .slice A m cap]).run Try.prog w = .ok (.int .i64 (soff : Nat)) w' ∧ Blk w' g t (splice cur off (Lib.byteCells (L.take soff))) ∧ Keeps w w' g := by
  have hbl : (Lib.byteCells (L.take soff)).length = soff := by
    rw [Lib.byteCells_length, List.length_take]
    have := Nat.min_le_left m dLen
    have : soff ≤ m := by rw [hs]; exact this
    omega
  obtain ⟨w', h1, h2, h3⟩ := run_copy_keep (P := Try.prog) w 27 27 3 5 Try.underlying27 (by kernel_rfl) (some ⟨g, off, none⟩) A dLen dCap m cap g off cur t hcur (Lib.byteCells (L.take soff)) (by rw [hbl]; exact hs)
    (fun h0 => ⟨rfl, by
      obtain ⟨b, o, rfl, _, hc⟩ := (hr.take soff) (by rw [Lib.byteCells_length] at h0; exact h0)
      refine ⟨_, rfl, fun j v hj => ?_⟩
      rw [add_plain]
      simp only [Lib.byteCells, List.getElem?_map, Option.map_eq_some_iff] at hj
      obtain ⟨x, hx, rfl⟩ := hj
      exact hc j x hx⟩) (by rw [hbl]; exact hfit) (bytes_one _)
  exact ⟨w', by rw [h1, hbl]; rfl, h2, h3⟩
/-- A row of bytes that stands in a block. -/
theorem rd_in {w : World} {g t : Nat} {cs : List Value} (h : Blk w g t cs) (o : Nat) (l : List UInt8) (hl : ∀ j x, l[j]? = some x → cs[o + j]? = some (.int .u8 x.toNat)) : Rd w (some ⟨g, o, none⟩) l := fun _ =>
  ⟨g, o, rfl, h.lt, fun j x hx => by rw [h.cell]; exact hl j x hx⟩
theorem Sec.Ok.rd_now {s : Sec} (hs : s.Ok) {w : World} {g t o : Nat} {P Q : List Value} (h : Blk w g t (P ++ (s.cells ++ Q))) (hP : P.length = o) : Rd w (some ⟨g, o, none⟩) s.now :=
  rd_in h o _ fun j x hx => by
    have hj : j < 128 := by have := (List.getElem?_eq_some_iff.1 hx).1; have := hs.now; omega
    rw [← hP, List.getElem?_append_right (by omega), Nat.add_sub_cancel_left, List.getElem?_append_left (by rw [hs.cells]; omega), hs.cell_now j hj, hx]; rfl
theorem Try.info_sector : (Try.prog.info? 56).map (·.size) = some 128 := by kernel_rfl
theorem arr_h (w : World) (q o n : Nat) (hn : n ≤ 128) : (Instr.sliceAt 56 (.pointer (some ⟨q, o, none⟩)) none (some (.int .i64 (n : Nat))) none).run Try.prog w = .ok (.slice (some ⟨q, o, none⟩) n 128) w := by
  have hl : Try.prog.arrayLen 56 = 128 := by kernel_rfl
  have hz : (sizeOf (Try.prog.elem 56)).run Try.prog w = .ok 1 w := by kernel_rfl
  rw [run_sliceAt_array_h w 56 ⟨q, o, none⟩ (by kernel_rfl) .i64 n (by omega) (by rw [hl]; omega), hz, hl]
  simp [Result.andThen, slicedAt, Addr.add]
theorem arr_all (w : World) (q o : Nat) : (Instr.sliceAt 56 (.pointer (some ⟨q, o, none⟩)) none none none).run Try.prog w = .ok (.slice (some ⟨q, o, none⟩) 128 128) w := by
  have hl : Try.prog.arrayLen 56 = 128 := by kernel_rfl
  have hz : (sizeOf (Try.prog.elem 56)).run Try.prog w = .ok 1 w := by kernel_rfl
  rw [run_sliceAt_array_all w 56 ⟨q, o, none⟩ (by kernel_rfl), hz, hl]
  simp [Result.andThen, slicedAt, Addr.add]
set_option maxHeartbeats 2000000 in
set_option maxRecDepth 100000 in
theorem settle_to {w : World} {q o : Nat} {P Q : List Value} {s : Sec} (hs : s.Ok) (h : Blk w q 58 (P ++ (s.cells ++ Q))) (hP : P.length = o) (n : Nat) (hn : n ≤ 128) :
    Calls Try.prog 34 #[.pointer (some ⟨q, o, none⟩), .int .i64 (n : Nat)] w fun e w' => e = .returned (.tuple #[]) ∧ Blk w' q 58 (P ++ ((s.settle n).cells ++ Q)) ∧ Keeps w w' q := by
  have hcl := hs.cells
  have hD : Blk w.drew q 58 (P ++ (s.cells ++ Q)) := h
  have hnl : (s.now.take n).length = n := by rw [List.length_take, hs.now]; omega
  obtain ⟨w1, hcp, hb1, hk1⟩ := copy_in w.drew q 58 (o + 128) n n 128 128 n _ hD (s.now.take n) (some ⟨q, o, none⟩) ((hs.rd_now hD hP).take n) hnl (Nat.min_self n).symm (by simp only [List.length_append, hP, hcl]; omega)
  have e1 : splice (P ++ (s.cells ++ Q)) (o + 128) (Lib.byteCells ((s.now.take n).take n)) = P ++ ((⟨s.now, s.now.take n ++ s.safe.drop n, s.dirty⟩ : Sec).cells ++ Q) := by
    rw [splice_mid P _ Q _ o 128 hP (by rw [Lib.byteCells_length, List.length_take, List.length_take, hcl]; omega), List.take_take, Nat.min_self]
    have := splice_safe s.now s.safe s.dirty (s.now.take n) hs.now hs.safe (by omega)
    rw [hnl] at this
    rw [← this]
  rw [e1] at hb1
  obtain ⟨x, hx⟩ : ∃ x, x = s.now.take n ++ s.safe.drop n := ⟨_, rfl⟩
  have hxl : x.length = 128 := by rw [hx, List.length_append, hnl, List.length_drop, hs.safe]; omega
  rw [← hx] at hb1
  have hc1 : (⟨s.now, x, s.dirty⟩ : Sec).cells.length = 257 := by
    unfold Sec.cells
    rw [List.length_append, List.length_append, Lib.byteCells_length, Lib.byteCells_length, hs.now, hxl]; rfl
  have HR : Hid (w1.rangeAt q (o + 128) (Lib.byteCells x)) := hb1.range _ _ fun j v hv => by
    have hj : j < 128 := by have := (List.getElem?_eq_some_iff.1 hv).1; rw [Lib.byteCells_length] at this; omega
    rw [← hP, Nat.add_assoc, List.getElem?_append_right (by omega), Nat.add_sub_cancel_left, List.getElem?_append_left (by omega)]
    unfold Sec.cells
    rw [List.getElem?_append_right (by rw [Lib.byteCells_length, hs.now]; omega), Lib.byteCells_length, hs.now, Nat.add_sub_cancel_left, List.getElem?_append_left (by rw [Lib.byteCells_length, hxl]; exact hj)]
    exact hv
  have HT : Hid (w1.there q o (Lib.byteCells x).toArray.size) := hb1.there _ _ (by
    simp only [List.size_toArray, Lib.byteCells_length, List.length_append, hP, hc1]; omega)
  have HXL : Hid ((Lib.byteCells x).length = 128) := by show _ = _; rw [Lib.byteCells_length, hxl]
  have HONE : Hid ((Lib.byteCells x).toArray.all (·.oneCell') = true) := all_oneCell_toArray (bytes_one _)
  have hb2 := hb1.setCells_ (Lib.byteCells x) o (by simp only [Lib.byteCells_length, List.length_append, hP, hc1]; omega)
  have e2 : splice (P ++ ((⟨s.now, x, s.dirty⟩ : Sec).cells ++ Q)) o (Lib.byteCells x) = P ++ ((⟨x, x, s.dirty⟩ : Sec).cells ++ Q) := by
    have := splice_mid P (⟨s.now, x, s.dirty⟩ : Sec).cells Q (Lib.byteCells x) o 0 hP (by rw [Lib.byteCells_length, hc1]; omega)
    rw [Nat.add_zero] at this
    rw [this, splice_now s.now x s.dirty x hs.now hxl]
  rw [e2] at hb2
  obtain ⟨w2, hw2⟩ : ∃ w2, w2 = w1.setCells q o (Lib.byteCells x) := ⟨_, rfl⟩
  rw [← hw2] at hb2
  have hc2 : (⟨x, x, s.dirty⟩ : Sec).cells.length = 257 := by
    unfold Sec.cells
    rw [List.length_append, List.length_append, Lib.byteCells_length, hxl]; rfl
  have cd : w2.cell? ⟨q, o + 256, none⟩ = some (.bool s.dirty) := by
    rw [hb2.cell, ← hP, List.getElem?_append_right (by omega), Nat.add_sub_cancel_left, List.getElem?_append_left (by omega)]
    unfold Sec.cells
    rw [List.getElem?_append_right (by rw [Lib.byteCells_length, hxl]; omega), Lib.byteCells_length, hxl, List.getElem?_append_right (by rw [Lib.byteCells_length, hxl]; omega), Lib.byteCells_length, hxl]
    rfl
  have fd : w2.frozen? ⟨q, o + 256, none⟩ = false := hb2.frozen _
  have hb3 := hb2.set_ (o + 256) (.bool false)
  rw [set_mid P _ Q o 256 _ hP (by omega), set_dirty x x s.dirty false hxl hxl] at hb3
  have HEND : Hid (Blk (w2.setCell ⟨q, o + 256, none⟩ (.bool false)) q 58 (P ++ ((s.settle n).cells ++ Q)) ∧ Keeps w (w2.setCell ⟨q, o + 256, none⟩ (.bool false)) q) := by
    refine ⟨?_, ?_⟩
    · unfold Sec.settle
      rw [← hx]; exact hb3
    · rw [hw2]
      have hk0 : Keeps w w1 q := ⟨hk1.os, hk1.tape, hk1.output, hk1.size, hk1.block⟩
      exact (hk0.setCells _ _).setCell _ _
  have HW2 := Lib.hid hw2
  have HCP := Lib.hid hcp
  clear hcp hb1 hb2 hb3 hk1 e1 e2 hc1 hc2 hcl hD hnl hx hxl h hs hP hw2
  go_enter Try.func34, Try.ntmps34
  have has := fun W o' => arr_h W q o' n hn
  go_upto_region 0 with (fail)
  go_still_tail 10, (by kernel_rfl)
  have hcp := HCP.out
  go_wp2_with (first
    | (refine wpList_load_mid rfl 56 (.tmp 18) rfl q (o + 128) rfl (Lib.byteCells x) _ HR.out Try.underlying56 rfl (by rw [HXL.out]; exact Try.info_sector) ?_)
    | (refine wpList_store_mid rfl 56 (.tmp 21) (.tmp 19) rfl q o (Lib.byteCells x).toArray rfl rfl HT.out (by rw [List.size_toArray, HXL.out]; exact Try.info_sector) HONE.out ?_; rw [show (Lib.byteCells x).toArray.toList = Lib.byteCells x from rfl, ← HW2.out]))
  refine bodyPost_end (results_none rfl _ _ _) rfl ?_
  exact ⟨rfl, HEND.out⟩
end Go.Proofs.Ytenedgapjbmpgaa
