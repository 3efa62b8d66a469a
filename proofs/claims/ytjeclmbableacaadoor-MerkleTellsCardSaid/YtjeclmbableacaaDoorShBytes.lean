/-
  OWN WORK. Blocks that are known whole; a slice that reads as a list.
-/
import Derived.Below
import Derived.Laws.OwnMore
import Derived.Deep.Draws
import Derived.Laws.Rows
import Derived.Deep.AppendLies
import Derived.Laws.CopyOwn
import Derived.Lib.UnsafeStr
import Derived.Test.YtjeclmbableacaaDoorBaRow
import Derived.Test.YtjeclmbableacaaDoorBaStr
import Derived.Test.YtjeclmbableacaaDoorShPure
namespace Go.Proofs.YtjeclmbableacaaDoor
open Go.RowKit

section
variable {w w' : World} {g : Nat} {t : TypeId} {cs : List Value}
end

def noughts (n : Nat) : List Value := Sh.words32 (List.replicate n 0)
theorem noughts_length (n : Nat) : (noughts n).length = n := by simp [noughts]
theorem words32_one (l : List Int) : ∀ v ∈ Sh.words32 l, v.oneCell' = true := by
  intro v hv
  obtain ⟨x, _, rfl⟩ := List.mem_map.1 hv
  rfl

end Go.Proofs.YtjeclmbableacaaDoor
namespace Go.Proofs.YtjeclmbableacaaDoor
open Go.RowKit

namespace Sh
def word4 (a b c d : UInt8) : Int := bits .or .u32 (bits .or .u32 (bits .or .u32 (a.toNat * 16777216) (b.toNat * 65536)) (c.toNat * 256)) d.toNat
def wordAt (l : List UInt8) (i : Nat) : Int := word4 (l.getD (4 * i) 0) (l.getD (4 * i + 1) 0) (l.getD (4 * i + 2) 0) (l.getD (4 * i + 3) 0)
/-- The words of a block; one that is not full ends with the bit behind it. -/
def wordsOf (l : List UInt8) : List Int := (List.range 16).map (wordAt (l ++ [128]))
theorem wordsOf_length (l : List UInt8) : (wordsOf l).length = 16 := by simp [wordsOf]

theorem ofInt_wrap (n : Nat) : BitVec.ofInt 32 (IntKind.u32.wrap (n : Int)) = BitVec.ofNat 32 n := by
  rw [IntKind.wrap_u32']
  apply BitVec.eq_of_toNat_eq
  rw [BitVec.toNat_ofNat, show ((n : Int) % 4294967296) = ((n % 4294967296 : Nat) : Int) by omega, BitVec.ofInt_natCast, BitVec.toNat_ofNat]
  omega
theorem bits_or_bv (x y : Int) : bits .or .u32 x y = ((BitVec.ofInt 32 x ||| BitVec.ofInt 32 y).toNat : Int) := by
  show IntKind.u32.wrap ((BitVec.ofInt 32 x ||| BitVec.ofInt 32 y).toNat : Int) = _
  rw [IntKind.wrap_u32']
  have := (BitVec.ofInt 32 x ||| BitVec.ofInt 32 y).isLt
  omega
theorem ofInt_toNat (b : BitVec 32) : BitVec.ofInt 32 (b.toNat : Int) = b := by
  rw [BitVec.ofInt_natCast, BitVec.ofNat_toNat]; simp
theorem bits_or_comm (x y : Int) : bits .or .u32 x y = bits .or .u32 y x := by rw [bits_or_bv, bits_or_bv, BitVec.or_comm]
theorem bits_or_assoc (x y z : Int) : bits .or .u32 (bits .or .u32 x y) z = bits .or .u32 x (bits .or .u32 y z) := by
  rw [bits_or_bv, bits_or_bv x y, ofInt_toNat, bits_or_bv x, bits_or_bv y z, ofInt_toNat, BitVec.or_assoc]
theorem bits_or_zero (x : Int) (h0 : 0 ≤ x) (h1 : x < 4294967296) : bits .or .u32 x 0 = x := by
  rw [bits_or_bv]
  obtain ⟨n, rfl⟩ := Int.eq_ofNat_of_zero_le h0
  have : BitVec.ofInt 32 (0 : Int) = 0#32 := by decide
  rw [this, BitVec.or_zero, BitVec.ofInt_natCast, BitVec.toNat_ofNat]
  omega
theorem bits_or_range (x y : Int) : 0 ≤ bits .or .u32 x y ∧ bits .or .u32 x y < 4294967296 := by
  rw [bits_or_bv]
  have := (BitVec.ofInt 32 x ||| BitVec.ofInt 32 y).isLt
  omega

theorem last0 : wordAt ([] ++ [128]) 0 = 2147483648 := by decide
theorem last1 (a : UInt8) : bits .or .u32 8388608 (a.toNat * 16777216) = wordAt ([a] ++ [128]) 0 := by
  show _ = word4 a 128 0 0
  unfold word4
  have h := bits_or_range ((a.toNat : Int) * 16777216) ((128 : UInt8).toNat * 65536)
  rw [show ((0 : UInt8).toNat : Int) * 256 = 0 from rfl, show (((0 : UInt8).toNat : Nat) : Int) = 0 from rfl, bits_or_zero _ h.1 h.2, bits_or_zero _ h.1 h.2, bits_or_comm]
  rfl
theorem last2 (a b : UInt8) : bits .or .u32 (bits .or .u32 32768 (b.toNat * 65536)) (a.toNat * 16777216) = wordAt ([a, b] ++ [128]) 0 := by
  show _ = word4 a b 128 0
  unfold word4
  have h := bits_or_range (bits .or .u32 ((a.toNat : Int) * 16777216) (b.toNat * 65536)) ((128 : UInt8).toNat * 256)
  rw [show (((0 : UInt8).toNat : Nat) : Int) = 0 from rfl, bits_or_zero _ h.1 h.2, show ((128 : UInt8).toNat : Int) * 256 = 32768 from rfl]
  rw [bits_or_comm _ ((a.toNat : Int) * 16777216), bits_or_comm 32768, bits_or_assoc]
theorem last3 (a b c : UInt8) : bits .or .u32 (bits .or .u32 (bits .or .u32 128 (c.toNat * 256)) (b.toNat * 65536)) (a.toNat * 16777216) = wordAt ([a, b, c] ++ [128]) 0 := by
  show _ = word4 a b c 128
  unfold word4
  rw [show (((128 : UInt8).toNat : Nat) : Int) = 128 from rfl]
  rw [bits_or_comm _ ((a.toNat : Int) * 16777216), bits_or_comm (bits .or .u32 128 _) ((b.toNat : Int) * 65536), bits_or_comm 128]
  rw [bits_or_assoc, bits_or_assoc]

theorem wordAt_append (l r : List UInt8) (i : Nat) (h : 4 * i + 4 ≤ l.length) : wordAt (l ++ r) i = wordAt l i := by
  have e : ∀ k, k < l.length → (l ++ r).getD k 0 = l.getD k 0 := by
    intro k hk
    simp [List.getD, List.getElem?_append_left hk]
  unfold wordAt
  rw [e _ (by omega), e _ (by omega), e _ (by omega), e _ (by omega)]
theorem wordAt_drop (l : List UInt8) (i j : Nat) : wordAt (l.drop (4 * i)) j = wordAt l (i + j) := by
  have e : ∀ k, (l.drop (4 * i)).getD k 0 = l.getD (4 * i + k) 0 := by
    intro k
    simp [List.getD, List.getElem?_drop]
  unfold wordAt
  rw [e, e, e, e]
  congr 2 <;> omega
theorem wordAt_far (l : List UInt8) (i : Nat) (h : l.length ≤ 4 * i) : wordAt l i = 0 := by
  have e : ∀ k, l.length ≤ k → l.getD k 0 = 0 := by
    intro k hk
    simp [List.getD, List.getElem?_eq_none hk]
  unfold wordAt
  rw [e _ (by omega), e _ (by omega), e _ (by omega), e _ (by omega)]
  decide
end Sh
end Go.Proofs.YtjeclmbableacaaDoor
