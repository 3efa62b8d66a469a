/-
  OWN WORK. What is read of what was written: plain mathematics.
-/
import Derived.Test.YtpblhdpnmnfieaaCoPure
namespace Go.Proofs.Ytpblhdpnmnfieaa
open Go.RowKit
namespace Co
theorem raw_app (x r : List UInt8) (n : Int) (h : n = x.length) (h1 : 1 ≤ n) : raw n ⟨x ++ r, 0⟩ = (x, ⟨r, 0⟩) := by
  subst h
  unfold raw
  rw [if_neg (by simp only [ne_eq, not_true_eq_false, false_or]; omega), if_neg (by simp only [List.length_append]; omega)]
  simp
theorem num_app (x r : List UInt8) (n : Int) (h : n = x.length) (h1 : 1 ≤ n) : num n ⟨x ++ r, 0⟩ = (beVal x, ⟨r, 0⟩) := by
  unfold num; rw [raw_app x r n h h1]
theorem num_byte (n : Nat) (r : List UInt8) : num 1 ⟨wByte n ++ r, 0⟩ = (n % 256, ⟨r, 0⟩) := by
  rw [num_app _ _ _ (by rfl) (by decide)]
  simp only [beVal, wByte, List.foldl_cons, List.foldl_nil, UInt8.toNat_ofNat']
  congr 1; omega
theorem num_short (n : Nat) (r : List UInt8) : num 2 ⟨wShort n ++ r, 0⟩ = (n % 65536, ⟨r, 0⟩) := by
  rw [num_app _ _ _ (by rfl) (by decide)]
  simp only [beVal, wShort, List.foldl_cons, List.foldl_nil, UInt8.toNat_ofNat']
  congr 1; omega
theorem wLong_is (n : Nat) : wLong n = [UInt8.ofNat (n / 72057594037927936), UInt8.ofNat (n / 281474976710656), UInt8.ofNat (n / 1099511627776), UInt8.ofNat (n / 4294967296), UInt8.ofNat (n / 16777216), UInt8.ofNat (n / 65536), UInt8.ofNat (n / 256), UInt8.ofNat n] := by
  have e : List.range 8 = [0, 1, 2, 3, 4, 5, 6, 7] := by decide
  unfold wLong
  rw [e]
  simp
theorem dig (n d : Nat) (hn : n ≤ 18446744073709551615) : (n / (d * 256) * 256 + n / d % 2 ^ 8) % 18446744073709551616 = n / d := by
  rw [← Nat.div_div_eq_div_mul]
  have h := Nat.div_le_self n d
  generalize n / d = q at h
  omega
theorem num_long (n : Nat) (hn : n ≤ 18446744073709551615) (r : List UInt8) : num 8 ⟨wLong n ++ r, 0⟩ = (n, ⟨r, 0⟩) := by
  rw [num_app _ _ _ (by rw [wLong_length]; rfl) (by decide)]
  simp only [beVal, wLong_is, List.foldl_cons, List.foldl_nil, UInt8.toNat_ofNat']
  have s0 : (0 * 256 + n / 72057594037927936 % 2 ^ 8) % 18446744073709551616 = n / 72057594037927936 := by
    have := Nat.div_lt_of_lt_mul (m := n) (n := 72057594037927936) (k := 256) (by omega)
    generalize n / 72057594037927936 = q at this
    omega
  have s1 := dig n 281474976710656 hn
  have s2 := dig n 1099511627776 hn
  have s3 := dig n 4294967296 hn
  have s4 := dig n 16777216 hn
  have s5 := dig n 65536 hn
  have s6 := dig n 256 hn
  have s7 := dig n 1 hn
  simp only [Nat.reduceMul, Nat.div_one] at s1 s2 s3 s4 s5 s6 s7
  rw [s0, s1, s2, s3, s4, s5, s6, s7]
theorem num_one (b : UInt8) (r : List UInt8) : num 1 ⟨b :: r, 0⟩ = (b.toNat, ⟨r, 0⟩) := by
  rw [show b :: r = [b] ++ r from rfl, num_app _ _ _ (by rfl) (by decide)]
  simp only [beVal, List.foldl_cons, List.foldl_nil]
  have := b.toNat_lt
  congr 1; omega
theorem flag_one (b : UInt8) (r : List UInt8) : flag ⟨b :: r, 0⟩ = (decide (b.toNat = 1), if 1 < b.toNat then ⟨r, 12⟩ else ⟨r, 0⟩) := by
  unfold flag; rw [num_one]
theorem flag_app (f : Bool) (r : List UInt8) : flag ⟨wFlag f ++ r, 0⟩ = (f, ⟨r, 0⟩) := by
  cases f
  · exact flag_one 0 r
  · exact flag_one 1 r
theorem bytes_app (x r : List UInt8) (hx : x.length ≤ 65535) : bytes ⟨wBytes x ++ r, 0⟩ = (x, ⟨r, 0⟩) := by
  have ht : x.take 65535 = x := List.take_of_length_le hx
  unfold bytes wBytes
  rw [ht, List.append_assoc, num_short]
  show raw ((x.length % 65536 : Nat) : Int) ⟨x ++ r, 0⟩ = _
  rw [Nat.mod_eq_of_lt (by omega)]
  by_cases h : x = []
  · subst h; rfl
  · have : 0 < x.length := List.length_pos_iff.2 h
    exact raw_app x r _ rfl (by omega)
theorem raw_short (n : Int) (l : List UInt8) (h1 : 1 ≤ n) (h : (l.length : Int) < n) : raw n ⟨l, 0⟩ = ([], ⟨l, 10⟩) := by
  unfold raw
  rw [if_neg (by simp only [ne_eq, not_true_eq_false, false_or]; omega), if_pos h]
theorem num_lack (n : Int) (l : List UInt8) (h1 : 1 ≤ n) (h : (l.length : Int) < n) : num n ⟨l, 0⟩ = (0, ⟨l, 10⟩) := by
  unfold num; rw [raw_short n l h1 h]; rfl
theorem raw_ref (n : Int) (s : Rs) (h : s.why ≠ 0) : raw n s = ([], s) := by
  unfold raw; rw [if_pos (.inl h)]
theorem num_ref (n : Int) (s : Rs) (h : s.why ≠ 0) : num n s = (0, s) := by
  unfold num; rw [raw_ref n s h]; rfl
theorem flag_ref (s : Rs) (h : s.why ≠ 0) : flag s = (false, s) := by
  unfold flag; rw [num_ref 1 s h]; rfl
theorem bytes_ref (s : Rs) (h : s.why ≠ 0) : bytes s = ([], s) := by
  unfold bytes; rw [num_ref 2 s h]; exact raw_ref _ _ h
theorem left_ref (s : Rs) (h : s.why ≠ 0) : left s = 0 := by unfold left; rw [if_pos h]
theorem fin_ref (s : Rs) (h : s.why ≠ 0) : fin s = s.why := by unfold fin; rw [if_pos h]
end Co
end Go.Proofs.Ytpblhdpnmnfieaa
