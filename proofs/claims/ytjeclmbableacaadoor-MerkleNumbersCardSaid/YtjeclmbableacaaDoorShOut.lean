/-
  OWN WORK. SHA-256: words into bytes; a new stream; its length.
-/
import Derived.Test.YtjeclmbableacaaDoorShBytes
import Derived.Test.YtjeclmbableacaaDoorShRot
import Derived.OwnWalk
import Derived.Laws.AppendOwn
import Derived.RegionTactic
import Derived.Lib.Hide
import Derived.Deep.Cut
import Derived.Deep.WholeRow
namespace Go.Proofs.YtjeclmbableacaaDoor
open Go.RowKit Sh

namespace Sh
def byteOf (x : Int) : UInt8 := UInt8.ofNat (x % 256).toNat
theorem byteOf_toNat (x : Int) : ((byteOf x).toNat : Int) = x % 256 := by
  unfold byteOf
  rw [UInt8.toNat_ofNat']
  omega
def bytes4 (x : Int) : List UInt8 := [byteOf (x / 16777216), byteOf (x / 65536), byteOf (x / 256), byteOf x]
def bytesOf (h : List Int) : List UInt8 := h.flatMap bytes4
theorem bytesOf_length (h : List Int) : (bytesOf h).length = 4 * h.length := by
  induction h with
  | nil => rfl
  | cons x h ih => show ([_, _, _, _] ++ bytesOf h).length = _; rw [List.length_append, ih, List.length_cons]; simp; omega
theorem bytesOf_take (h : List Int) (k : Nat) (hk : k < h.length) : bytesOf (h.take (k + 1)) = bytesOf (h.take k) ++ bytes4 (h.getD k 0) := by
  unfold bytesOf
  rw [List.take_succ_eq_append_getElem hk, List.flatMap_append]
  congr 1
  simp [List.getElem?_eq_getElem hk]
theorem cells4 (x : Int) : Lib.byteCells (bytes4 x) = [.int .u8 (x / 16777216 % 256), .int .u8 (x / 65536 % 256), .int .u8 (x / 256 % 256), .int .u8 (x % 256)] := by
  simp [Lib.byteCells, bytes4, byteOf_toNat]
end Sh

/-- What the call has made and filled so far. -/
def BytesAt (h : List Int) (tail : List Value) (B T : Nat) (w0 : World) (v : Value) (wr : World) (k : Nat) : Prop :=
  wr.ownsRow w0.heap.size 5 1 v (4 * k) (Lib.byteCells (bytesOf (h.take k))) ∧ Blk wr B T (words32 h ++ tail) ∧ Below w0.heap.size w0 wr

set_option maxHeartbeats 1000000 in
set_option maxRecDepth 100000 in
theorem bytes_any (h : List Int) (hh : h.length = 8) (tail : List Value) (B T : Nat) (w : World) (hB : Blk w B T (words32 h ++ tail)) :
    Calls Tryd.prog 49 #[.pointer (some ⟨B, 0, none⟩)] w fun e w' => ∃ v, e = .returned v ∧ w'.ownsRow w.heap.size 5 1 v 32 (Lib.byteCells (bytesOf h)) ∧ Below w.heap.size w w' := by
  obtain ⟨i0, hi, hz0, hz1, hz2⟩ := info_parts Tryd.infoU8
  have HI0 := Lib.hid hi
  have HZ0 := Lib.hid hz0
  have HZ1 := Lib.hid hz1
  have HZ2 := Lib.hid hz2
  have HH := Lib.hid hh
  have HBK : Hid (Blk w B T (words32 h ++ tail)) := hB
  have hlt := hB.lt
  clear hi hz0 hz1 hz2 hh hB
  go_enter Tryd.func49, Tryd.ntmps49
  go_upto_region 2 with (first
    | (at_make; refine wpList_make_own _ rfl _ _ 23 rfl w.heap.size 5 i0 (.int .u8 0) 1 Tryd.underlying23 HI0.out HZ0.out HZ1.out .i64 .i64 32 32 rfl rfl rfl (by rw [HZ2.out]; omega) (by unfold maxLen; omega) (Nat.le_refl _) ?_; intro w0 hown0 hgrow0))
  have HS : Hid (BytesAt h tail B T w (.slice (some ⟨w.heap.size, 0, none⟩) 0 32) w0 0) :=
    ⟨by simpa [bytesOf, Lib.byteCells] using hown0, HBK.out.grown hgrow0 (by simp), (Below.refl _ _).grown hgrow0 (Nat.le_refl _) (fun k hk => by cases hk)⟩
  clear hown0 hgrow0 HBK
  go_wp2_with fail
  go_loopw [3, 8] (fun t3 t8 wr => ∃ k : Nat, k ≤ 8 ∧ t8 = .int .i64 k ∧ Hid (BytesAt h tail B T w t3 wr k)) (fun _ t8 _ => 8 - (intOf t8).toNat)
  case atStart => exact ⟨0, by omega, rfl, HS⟩
  case round =>
    obtain ⟨k, hk, rfl, HK⟩ := hrel
    by_cases hlt8 : k < 8
    · have c0 : wr.cell? ⟨B, k, none⟩ = some (.int .u32 (h.getD k 0)) := by
        have hl : k < h.length := by rw [HH.out]; exact hlt8
        rw [HK.out.2.1.cell, List.getElem?_append_left (by simpa using hl), words32_get _ _ hl]
      have HC : Hid (Lib.byteCells (bytesOf (h.take (k + 1))) = Lib.byteCells (bytesOf (h.take k)) ++ [.int .u8 (h.getD k 0 / 16777216 % 256), .int .u8 (h.getD k 0 / 65536 % 256), .int .u8 (h.getD k 0 / 256 % 256), .int .u8 (h.getD k 0 % 256)]) := by
        show _ = _
        rw [bytesOf_take _ _ (by rw [HH.out]; exact hlt8), Lib.byteCells_append, cells4]
      generalize h.getD k 0 = x at *
      have HOWN := Lib.hid HK.out.1
      have hsz : w.heap.size ≤ wr.heap.size := HK.out.2.2.size
      go_wp2_with (first
        | (at_builtin; refine wpList_append_own _ rfl _ _ 23 rfl w.heap.size 5 i0 (.int .u8 0) 1 1 Tryd.underlying23 HI0.out HZ0.out HZ1.out HZ2.out rfl (by decide) _ _ _ rfl (HOWN.out.alloc _) ⟨wr.heap.size, 0, none⟩ 4 4 [.int .u8 (x / 16777216 % 256), .int .u8 (x / 65536 % 256), .int .u8 (x / 256 % 256), .int .u8 (x % 256)] rfl rfl ?c1 ?c2 ?c3 ?c4 ?c5 ?_))
      case c1 =>
        intro j u hu
        rw [add_plain, Nat.zero_add, World.cell?_alloc_at _ _ _ _ rfl]
        simpa using hu
      case c2 =>
        intro u hu
        simp only [List.mem_cons, List.not_mem_nil, or_false] at hu
        rcases hu with rfl | rfl | rfl | rfl <;> rfl
      case c3 => unfold maxLen; omega
      case c4 => omega
      case c5 => rw [World.size_alloc]; omega
      intro v' w1 hown' hgrow _
      have HN : Hid (BytesAt h tail B T w v' w1 (k + 1)) := by
        refine ⟨?_, ?_, ?_⟩
        · rw [HC.out]; exact hown'
        · refine (HK.out.2.1.alloc _).grown hgrow ?_
          intro e
          have := HOWN.out.ownBlock_ge _ e.symm
          omega
        · refine ((HK.out.2.2.alloc hsz _).grown hgrow (by rw [World.size_alloc]; omega) (fun g hg => HOWN.out.ownBlock_ge g hg))
      clear hown' hgrow
      go_wp2_with fail
      go_roundw
      case rel => exact ⟨k + 1, by omega, by go_num, HN⟩
      case measure => simp [intOf]; omega
    · obtain rfl : k = 8 := by omega
      have HF : Hid (wr.ownsRow w.heap.size 5 1 u3 32 (Lib.byteCells (bytesOf h)) ∧ Below w.heap.size w wr) := by
        show _ ∧ _
        have h1 := HK.out.1
        rw [List.take_of_length_le (by rw [HH.out]; omega)] at h1
        exact ⟨h1, HK.out.2.2⟩
      clear HK
      go_wp2_with fail
      go_ret
      exact ⟨_, rfl, HF.out⟩
end Go.Proofs.YtjeclmbableacaaDoor
