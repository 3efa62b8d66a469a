/-
  OWN WORK. Half a byte at a time, by the table.
-/
import Derived.Test.YtdopgnfggpdfoaaDoorCrRef
import Derived.Test.YtdopgnfggpdfoaaDoorCrEnv
namespace Go.Proofs.YtdopgnfggpdfoaaDoor
open Go.RowKit
namespace Cr
theorem halves_stps : ∀ i, i < 16 → halvesL.getD i 0 = ((stps 4 i : Nat) : Int) := by decide
theorem split16 (c : Nat) : c = 16 * (c / 16) ^^^ c % 16 := by
  have h := Nat.two_pow_add_eq_or_of_lt (i := 4) (b := c % 16) (by omega) (c / 16)
  have hx : 2 ^ 4 * (c / 16) ^^^ c % 16 = 2 ^ 4 * (c / 16) + c % 16 := by
    rw [h]
    apply Nat.eq_of_testBit_eq
    intro i
    rw [Nat.testBit_xor, Nat.testBit_or, Nat.testBit_two_pow_mul]
    by_cases hi : 4 ≤ i
    · have : (c % 16).testBit i = false := Nat.testBit_lt_two_pow (Nat.lt_of_lt_of_le (show c % 16 < 2 ^ 4 by omega) (Nat.pow_le_pow_right (by decide) hi))
      simp [this]
    · simp [hi]
  show c = 2 ^ 4 * (c / 16) ^^^ c % 16
  rw [hx]; omega
theorem stps_half (c : Nat) : stps 4 c = c / 16 ^^^ stps 4 (c % 16) := by
  conv => lhs; rw [split16 c]
  rw [stps_xor, show 16 * (c / 16) = 2 ^ 4 * (c / 16) from rfl, stps_pow]
theorem stps_add : ∀ (m n c : Nat), stps (m + n) c = stps n (stps m c)
  | 0, n, c => by rw [Nat.zero_add]; rfl
  | m + 1, n, c => by rw [Nat.add_right_comm]; exact stps_add m n (stp c)
theorem byt_half (c : Nat) : byt c = stps 4 (stps 4 c) := stps_add 4 4 c
theorem bits_and_15 (a : Nat) (ha : a < 4294967296) : bits .and .u32 (a : Int) 15 = ((a % 16 : Nat) : Int) := by
  show IntKind.u32.wrap ((BitVec.ofInt 32 (a : Int) &&& BitVec.ofInt 32 (15 : Int)).toNat : Int) = _
  rw [IntKind.wrap_u32', BitVec.toNat_and, BitVec.ofInt_natCast, BitVec.toNat_ofNat, Nat.mod_eq_of_lt ha, show (BitVec.ofInt 32 (15 : Int)).toNat = 2 ^ 4 - 1 by decide, Nat.and_two_pow_sub_one_eq_mod]
  omega
theorem not_is (c : Nat) (h : c < 4294967296) : c ^^^ ones = 4294967295 - c := by
  have e : (BitVec.ofNat 32 c ^^^ BitVec.allOnes 32) = ~~~ (BitVec.ofNat 32 c) := BitVec.xor_allOnes
  have h1 := congrArg BitVec.toNat e
  rw [BitVec.toNat_xor, BitVec.toNat_not, BitVec.toNat_ofNat, BitVec.toNat_allOnes, Nat.mod_eq_of_lt h] at h1
  exact h1
end Cr
end Go.Proofs.YtdopgnfggpdfoaaDoor
