/-
  OWN WORK. SHA-256: a stream's state.
-/
import Derived.Test.YtjeclmbableacaaDoorShMix
import Derived.Test.YtjeclmbableacaaDoorShWords
import Derived.Test.YtjeclmbableacaaDoorShOut
namespace Go.Proofs.YtjeclmbableacaaDoor
open Go.RowKit Sh

namespace Sh
/-- What so many whole blocks are mixed to. -/
def hashTo (l : List UInt8) : Nat → List Int
  | 0 => hash0
  | k + 1 => mix (hashTo l k) (wordsOf ((l.drop (64 * k)).take 64))
theorem hashTo_length (l : List UInt8) (k : Nat) : (hashTo l k).length = 8 := by
  induction k with
  | zero => rfl
  | succ k ih => exact mix_length _ _ ih
theorem hashTo_append (l r : List UInt8) (k : Nat) (h : 64 * k ≤ l.length) : hashTo (l ++ r) k = hashTo l k := by
  induction k with
  | zero => rfl
  | succ k ih =>
    rw [hashTo, hashTo, ih (by omega)]
    congr 2
    rw [List.drop_append_of_le_length (by omega), List.take_append_of_le_length (by rw [List.length_drop]; omega)]
/-- What has come since the last whole block. -/
def rest (l : List UInt8) : List UInt8 := l.drop (64 * (l.length / 64))
theorem rest_length (l : List UInt8) : (rest l).length = l.length % 64 := by rw [rest, List.length_drop]; omega
/-- The hash of l, as a stream tells it: one block more, or two. -/
def bitsHi (n : Nat) : Int := (n : Int) * 8 / 4294967296 % 4294967296
def bitsLo (n : Nat) : Int := (n : Int) * 8 % 4294967296
def ended (b : List Int) (n : Nat) : List Int := (b.set 14 (bitsHi n)).set 15 (bitsLo n)
def sumW (l : List UInt8) : List Int :=
  if 56 ≤ (rest l).length then mix (mix (hashTo l (l.length / 64)) (wordsOf (rest l))) (ended (List.replicate 16 0) l.length)
  else mix (hashTo l (l.length / 64)) (ended (wordsOf (rest l)) l.length)
def sum (l : List UInt8) : List UInt8 := bytesOf (sumW l)
theorem sumW_length (l : List UInt8) : (sumW l).length = 8 := by
  unfold sumW
  split
  · exact mix_length _ _ (mix_length _ _ (hashTo_length _ _))
  · exact mix_length _ _ (hashTo_length _ _)
theorem sum_length (l : List UInt8) : (sum l).length = 32 := by rw [sum, bytesOf_length, sumW_length]
end Sh

/-- The stream in block B has taken l. -/
def Cells (h : List Int) (b : List UInt8) (held all : Nat) : List Value := words32 h ++ (Lib.byteCells b ++ [.int .i64 held, .int .i64 all])
def St (w : World) (B : Nat) (l : List UInt8) : Prop :=
  ∃ junk : List UInt8, (rest l).length + junk.length = 64 ∧ Blk w B 66 (Cells (hashTo l (l.length / 64)) (rest l ++ junk) (l.length % 64) l.length)
theorem St.below {w w' : World} {B : Nat} {l : List UInt8} (h : St w B l) (hb : Below w.heap.size w w') : St w' B l := by
  obtain ⟨junk, hj, hB⟩ := h
  exact ⟨junk, hj, hB.below hb hB.lt⟩
theorem St.keeps {w w' : World} {B g : Nat} {l : List UInt8} (h : St w B l) (hb : Keeps w w' g) (hne : B ≠ g) : St w' B l := by
  obtain ⟨junk, hj, hB⟩ := h
  exact ⟨junk, hj, hB.grown hb (by simpa using hne)⟩
theorem St.lt {w : World} {B : Nat} {l : List UInt8} (h : St w B l) : B < w.heap.size := by
  obtain ⟨junk, hj, hB⟩ := h
  exact hB.lt
theorem St.drew {w : World} {B : Nat} {l : List UInt8} (h : St w B l) : St w.drew B l := h

section
variable {h : List Int} {b : List UInt8} {hd al : Nat} {w : World} {B T : Nat}
theorem Cells.len (hh : h.length = 8) (hb : b.length = 64) : (Cells h b hd al).length = 74 := by simp [Cells, hh, hb, Lib.byteCells_length]
theorem Cells.word (hB : Blk w B T (Cells h b hd al)) (i : Nat) (hi : i < h.length) : w.cell? ⟨B, i, none⟩ = some (.int .u32 (h.getD i 0)) := by
  rw [hB.cell, Cells, List.getElem?_append_left (by simpa using hi), words32_get _ _ hi]
theorem Cells.byte (hB : Blk w B T (Cells h b hd al)) (hh : h.length = 8) (i : Nat) (hi : i < b.length) : w.cell? ⟨B, 8 + i, none⟩ = some (.int .u8 (b.getD i 0).toNat) := by
  rw [hB.cell, Cells, List.getElem?_append_right (by simp [hh]), words32_length, hh, Nat.add_sub_cancel_left, List.getElem?_append_left (by simpa [Lib.byteCells_length] using hi)]
  simp [Lib.byteCells, List.getElem?_eq_getElem hi]
theorem Cells.held (hB : Blk w B T (Cells h b hd al)) (hh : h.length = 8) (hb : b.length = 64) : w.cell? ⟨B, 72, none⟩ = some (.int .i64 hd) := by
  rw [hB.cell, Cells, List.getElem?_append_right (by simp [hh]), words32_length, hh, List.getElem?_append_right (by simp [Lib.byteCells_length, hb]), Lib.byteCells_length, hb]
  rfl
theorem Cells.all (hB : Blk w B T (Cells h b hd al)) (hh : h.length = 8) (hb : b.length = 64) : w.cell? ⟨B, 73, none⟩ = some (.int .i64 al) := by
  rw [hB.cell, Cells, List.getElem?_append_right (by simp [hh]), words32_length, hh, List.getElem?_append_right (by simp [Lib.byteCells_length, hb]), Lib.byteCells_length, hb]
  rfl
theorem Cells.setHeld (hB : Blk w B T (Cells h b hd al)) (hh : h.length = 8) (hb : b.length = 64) (x : Nat) : Blk (w.setCell ⟨B, 72, none⟩ (.int .i64 x)) B T (Cells h b x al) := by
  have := hB.set_ 72 (.int .i64 x)
  rw [Cells, List.set_append_right _ _ (by simp [hh]), words32_length, hh, List.set_append_right _ _ (by simp [Lib.byteCells_length, hb]), Lib.byteCells_length, hb] at this
  exact this
theorem Cells.setAll (hB : Blk w B T (Cells h b hd al)) (hh : h.length = 8) (hb : b.length = 64) (x : Nat) : Blk (w.setCell ⟨B, 73, none⟩ (.int .i64 x)) B T (Cells h b hd x) := by
  have := hB.set_ 73 (.int .i64 x)
  rw [Cells, List.set_append_right _ _ (by simp [hh]), words32_length, hh, List.set_append_right _ _ (by simp [Lib.byteCells_length, hb]), Lib.byteCells_length, hb] at this
  exact this
theorem Cells.rd (hB : Blk w B T (Cells h b hd al)) (hh : h.length = 8) (n : Nat) : Rd w (some ⟨B, 8, none⟩) (b.take n) := by
  intro hl
  refine ⟨B, 8, rfl, hB.lt, fun j x hx => ?_⟩
  rw [List.getElem?_take] at hx
  split at hx
  · obtain ⟨hj, rfl⟩ := List.getElem?_eq_some_iff.1 hx
    rw [Cells.byte hB hh j hj]
    simp [List.getElem?_eq_getElem hj]
  · cases hx
/-- Bytes that are copied over the rest. -/
theorem Cells.splice (hh : h.length = 8) (b x : List UInt8) (o : Nat) (hb : o + x.length ≤ b.length) : Go.splice (Cells h b hd al) (8 + o) (Lib.byteCells x) = Cells h (b.take o ++ (x ++ b.drop (o + x.length))) hd al := by
  unfold Go.splice Cells
  rw [Lib.byteCells_length, List.take_append, List.drop_append]
  have e1 : (words32 h).length = 8 := by simp [hh]
  rw [List.take_of_length_le (by omega), List.drop_of_length_le (by omega : (words32 h).length ≤ 8 + o + x.length), e1, Nat.add_sub_cancel_left, List.nil_append]
  have e2 : 8 + o + x.length - 8 = o + x.length := by omega
  rw [e2, List.take_append_of_le_length (by rw [Lib.byteCells_length]; omega), List.drop_append_of_le_length (by rw [Lib.byteCells_length]; omega)]
  simp [Lib.byteCells, List.map_take, List.map_drop]
end

set_option maxRecDepth 100000 in
theorem begun_any (w : World) : Calls Tryd.prog 46 #[] w fun e w' => e = .returned (.agg #[.int .u32 1779033703, .int .u32 3144134277, .int .u32 1013904242, .int .u32 2773480762, .int .u32 1359893119, .int .u32 2600822924, .int .u32 528734635, .int .u32 1541459225]) ∧ Below w.heap.size w w' := by
  go_enter Tryd.func46, Tryd.ntmps46
  go_wp2
  exact bodyPost_ret (v := .agg (words32 hash0).toArray) (results_cell_row rfl _ _ w.heap.size 62 (words32 hash0).toArray (0, 0) _ rfl (heap_alloc_new w _) Tryd.underlying62 rfl (by kernel_rfl)) rfl ⟨rfl, (Below.refl _ _).alloc (Nat.le_refl _) _⟩

theorem Tryd.zeroStream (w : World) : (zeroValue 66).run Tryd.prog w = .ok (.agg #[.int .u32 0, .int .u32 0, .int .u32 0, .int .u32 0, .int .u32 0, .int .u32 0, .int .u32 0, .int .u32 0, .int .u8 0, .int .u8 0, .int .u8 0, .int .u8 0, .int .u8 0, .int .u8 0, .int .u8 0, .int .u8 0, .int .u8 0, .int .u8 0, .int .u8 0, .int .u8 0, .int .u8 0, .int .u8 0, .int .u8 0, .int .u8 0, .int .u8 0, .int .u8 0, .int .u8 0, .int .u8 0, .int .u8 0, .int .u8 0, .int .u8 0, .int .u8 0, .int .u8 0, .int .u8 0, .int .u8 0, .int .u8 0, .int .u8 0, .int .u8 0, .int .u8 0, .int .u8 0, .int .u8 0, .int .u8 0, .int .u8 0, .int .u8 0, .int .u8 0, .int .u8 0, .int .u8 0, .int .u8 0, .int .u8 0, .int .u8 0, .int .u8 0, .int .u8 0, .int .u8 0, .int .u8 0, .int .u8 0, .int .u8 0, .int .u8 0, .int .u8 0, .int .u8 0, .int .u8 0, .int .u8 0, .int .u8 0, .int .u8 0, .int .u8 0, .int .u8 0, .int .u8 0, .int .u8 0, .int .u8 0, .int .u8 0, .int .u8 0, .int .u8 0, .int .u8 0, .int .i64 0, .int .i64 0]) w := (zero_of_info (P := Tryd.prog) (t := 66) (n := 74) (by kernel_rfl)).1 w

theorem st_new (w : World) : St (w.alloc (.cells (Cells hash0 (List.replicate 64 0) 0 0).toArray 66)) w.heap.size [] := ⟨List.replicate 64 0, rfl, Blk.new w _ _⟩

set_option maxRecDepth 100000 in
theorem new_any (w : World) : Calls Tryd.prog 41 #[] w fun e w' => ∃ B, e = .returned (.pointer (some ⟨B, 0, none⟩)) ∧ w.heap.size ≤ B ∧ St w' B [] ∧ Below w.heap.size w w' := by
  go_enter Tryd.func41, Tryd.ntmps41
  go_wp2_with fail
  refine (begun_any w).mono ?_
  rintro e w1 ⟨rfl, hb⟩
  have HB : Hid (Below w.heap.size w w1) := hb
  clear hb
  have hz := Tryd.zeroStream
  go_wp2
  go_ret
  refine ⟨w1.heap.size, rfl, HB.out.size, st_new w1, HB.out.alloc HB.out.size _⟩

theorem arr64_len : Tryd.prog.arrayLen 64 = 64 := by kernel_rfl
theorem arr64_size (w : World) : (sizeOf (Tryd.prog.elem 64)).run Tryd.prog w = .ok 1 w := by kernel_rfl
theorem arr64_under : Tryd.prog.underlying 64 = some (.array (Tryd.prog.arrayLen 64) (Tryd.prog.elem 64)) := by kernel_rfl
theorem arr64_h (w : World) (b off n : Nat) (h : n ≤ 64) : (Instr.sliceAt 64 (.pointer (some ⟨b, off, none⟩)) none (some (.int .i64 n)) none).run Tryd.prog w = .ok (.slice (some ⟨b, off, none⟩) n 64) w := by
  rw [run_sliceAt_array_h w _ _ arr64_under .i64 n (by omega) (by rw [arr64_len]; omega), arr64_size]
  simp only [Result.andThen, slicedAt, arr64_len, add_plain, Int.toNat_natCast]
  rw [if_neg (by omega)]
  simp
theorem arr64_l (w : World) (b off n : Nat) (h : n < 64) : (Instr.sliceAt 64 (.pointer (some ⟨b, off, none⟩)) (some (.int .i64 n)) none none).run Tryd.prog w = .ok (.slice (some ⟨b, off + n, none⟩) (64 - n) (64 - n)) w := by
  rw [run_sliceAt_array_l w _ _ arr64_under .i64 n (by omega) (by rw [arr64_len]; omega), arr64_size]
  simp only [Result.andThen, slicedAt, arr64_len, add_plain, Int.toNat_natCast]
  rw [if_neg (by omega)]
  simp
end Go.Proofs.YtjeclmbableacaaDoor
