/-
  OWN WORK. Texts as lists of bytes: what a walk asks of them: held against one another, a byte, a part, one behind the other.
-/
import Derived.Test.YtpblhdpnmnfieaaLBaStr
import Derived.WalkSpells
namespace Go.Proofs.Ytpblhdpnmnfieaa
open Go.RowKit

theorem strOf_list (l : List UInt8) : (strOf l).toList = l := ByteArray.toList_mk l
theorem strOf_beq (a b : List UInt8) : ((strOf a).toList == (strOf b).toList) = decide (a = b) := by
  rw [strOf_list, strOf_list]
  by_cases h : a = b
  · subst h; simp
  · rw [decide_eq_false h]; exact beq_eq_false_iff_ne.2 h
theorem strOf_lit (a b : List UInt8) : ((strOf a).toList == b) = decide (a = b) := by
  rw [strOf_list]
  by_cases h : a = b
  · subst h; simp
  · rw [decide_eq_false h]; exact beq_eq_false_iff_ne.2 h
theorem strOf_nil (l : List UInt8) : ((strOf l).toList.isEmpty) = decide (l = []) := by
  rw [strOf_list]
  cases l <;> simp
theorem strOf_of (s : ByteArray) : ∃ l : List UInt8, s = strOf l ∧ l.length = s.size := ⟨s.data.toList, by cases s; simp [strOf], by cases s; simp [ByteArray.size]⟩
/-- A byte of a text. -/
theorem str_at {l : List UInt8} {i : Nat} {c : UInt8} (h : l[i]? = some c) (w : World) : (Instr.index 9 (.string (strOf l)) (.int .i64 (i : Nat))).run Try.prog w = .ok (.int .u8 (c.toNat : Nat)) w := by
  have hi := (List.getElem?_eq_some_iff.1 h).1
  rw [run_index_string w 9 (strOf l) .i64 i Try.underlying9, dif_pos (by rw [strOf_size]; omega)]
  congr 3
  simp only [strOf, ByteArray.getElem_eq_getElem_data, Int.toNat_natCast, List.getElem_toArray]
  rw [(List.getElem?_eq_some_iff.1 h).2]
theorem str_at0 {l : List UInt8} {c : UInt8} (h : l[0]? = some c) (w : World) : (Instr.index 9 (.string (strOf l)) (.int .i64 0)).run Try.prog w = .ok (.int .u8 (c.toNat : Nat)) w := str_at h w
theorem str_extract (l : List UInt8) (a b : Nat) : (strOf l).extract a b = strOf ((l.drop a).take (b - a)) := ByteArray.extract_mk l a b
/-- A part of a text. -/
theorem str_lh (l : List UInt8) (lo hi : Nat) (h1 : lo ≤ hi) (h2 : hi ≤ l.length) (w : World) : (Instr.slice 9 (.string (strOf l)) (some (.int .i64 (lo : Nat))) (some (.int .i64 (hi : Nat))) none).run Try.prog w = .ok (.string (strOf ((l.drop lo).take (hi - lo)))) w := by
  rw [run_slice_string w 9 (strOf l) .i64 .i64 lo hi Try.underlying9 (by omega) (by omega) (by rw [strOf_size]; omega), str_extract]
  rfl
theorem str_l (l : List UInt8) (lo : Nat) (h1 : lo ≤ l.length) (w : World) : (Instr.slice 9 (.string (strOf l)) (some (.int .i64 (lo : Nat))) none none).run Try.prog w = .ok (.string (strOf (l.drop lo))) w := by
  rw [run_slice_string_from_if w 9 (strOf l) .i64 lo Try.underlying9, if_pos (by rw [strOf_size]; omega), str_extract, strOf_size]
  congr 3
  rw [Int.toNat_natCast, List.take_of_length_le (by rw [List.length_drop]; omega)]
theorem str_h (l : List UInt8) (hi : Nat) (h1 : hi ≤ l.length) (w : World) : (Instr.slice 9 (.string (strOf l)) none (some (.int .i64 (hi : Nat))) none).run Try.prog w = .ok (.string (strOf (l.take hi))) w := by
  rw [run_slice_string_to_if w 9 (strOf l) .i64 hi Try.underlying9, if_pos (by rw [strOf_size]; omega), str_extract]
  rfl
theorem strOf_append (a b : List UInt8) : strOf a ++ strOf b = strOf (a ++ b) := by
  apply ByteArray.ext
  simp [strOf]
/-- One behind the other. -/
theorem str_add (a b : List UInt8) (h : a.length + b.length ≤ 9223372036854775807) : Op.stringOp .add (strOf a) (strOf b) = pure (.string (strOf (a ++ b))) := by
  unfold Op.stringOp
  simp only [strOf_size, strOf_append]
  rw [if_neg (by show ¬ ((a.length + b.length : Nat) : Int) > 9223372036854775807; omega)]
end Go.Proofs.Ytpblhdpnmnfieaa
