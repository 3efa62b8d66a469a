/-
  OWN WORK. Small laws that the texts of codec lean on.
-/
import Derived.Test.YtpblhdpnmnfieaaCpNum
namespace Go.Proofs.Ytpblhdpnmnfieaa
open Go.RowKit
namespace Co
theorem bits_or64 (x b : Nat) (hb : b < 256) : bits .or .u64 (IntKind.u64.wrap ((x : Int) * (256 : Int))) (b : Int) = (((x * 256 + b) % 18446744073709551616 : Nat) : Int) := by
  show IntKind.u64.wrap ((BitVec.ofInt 64 _ ||| BitVec.ofInt 64 _).toNat : Int) = _
  obtain ⟨y, hy⟩ : ∃ y : Nat, y = (x % 72057594037927936) <<< 8 := ⟨_, rfl⟩
  have hy2 : y = (x % 72057594037927936) * 256 := by rw [hy, Nat.shiftLeft_eq]
  have hx : IntKind.u64.wrap ((x : Int) * (256 : Int)) = (y : Int) := by rw [IntKind.wrap_u64]; omega
  have hor : y ||| b = y + b := by rw [hy]; exact (Nat.shiftLeft_add_eq_or_of_lt (by omega : b < 2 ^ 8) _).symm
  rw [hx, BitVec.ofInt_natCast, BitVec.ofInt_natCast, BitVec.toNat_or, BitVec.toNat_ofNat, BitVec.toNat_ofNat, Nat.mod_eq_of_lt (by omega), Nat.mod_eq_of_lt (by omega), hor]
  rw [IntKind.wrap_u64]
  omega
theorem beVal_snoc (l : List UInt8) (k : Nat) (h : k < l.length) : beVal (l.take (k + 1)) = (beVal (l.take k) * 256 + (l.getD k 0).toNat) % 18446744073709551616 := by
  rw [List.take_succ_eq_append_getElem h, beVal, beVal, List.foldl_append]
  simp only [List.foldl_cons, List.foldl_nil, List.getD, List.getElem?_eq_getElem h, Option.getD_some]
theorem beVal_lt (l : List UInt8) : beVal l < 18446744073709551616 := by
  rcases Nat.eq_zero_or_pos l.length with h | h
  · rw [List.eq_nil_of_length_eq_zero h]; decide
  · obtain ⟨k, hk⟩ : ∃ k, l.length = k + 1 := ⟨l.length - 1, by omega⟩
    rw [← List.take_length (l := l), hk, beVal_snoc l k (by omega)]
    omega
end Co
theorem below_drewN (w : World) (n : Nat) : Below w.heap.size w (w.drewN n) := ⟨rfl, rfl, rfl, Nat.le_refl _, fun _ _ => rfl⟩
theorem own_up {w : World} {B n : Nat} {v : Value} {xs : List Value} (h : w.ownsRow 0 5 1 v n xs) (hb : ∀ b, v.ownBlock = some b → B ≤ b) : w.ownsRow B 5 1 v n xs := by
  refine ⟨h.1, ?_⟩
  rcases h.2 with h2 | ⟨g, cap, cur, rfl, h4, h5⟩
  · exact .inl h2
  · exact .inr ⟨g, cap, cur, rfl, hb g rfl, h5⟩
theorem own_nil (w : World) (B : Nat) : w.ownsRow B 5 1 (.slice none 0 0) 0 (Lib.byteCells []) := ⟨rfl, .inl ⟨rfl, rfl⟩⟩
theorem own_form {w : World} {B : Nat} {v : Value} {l : List UInt8} (h : w.ownsRow B 5 1 v l.length (Lib.byteCells l)) : ∃ X c, v = .slice X l.length c ∧ l.length ≤ c ∧ Rd w X l := bRow_form (own_base h)
theorem num_small1 (s : Co.Rs) : (Co.num 1 s).1 < 256 := by
  unfold Co.num Co.raw
  split
  · exact (by decide : Co.beVal [] < 256)
  · split
    · exact (by decide : Co.beVal [] < 256)
    · show Co.beVal (s.rem.take 1) < 256
      rcases s.rem with _ | ⟨a, t⟩
      · decide
      · have := a.toNat_lt
        simp [Co.beVal]
        omega
theorem num_small2 (s : Co.Rs) : (Co.num 2 s).1 < 65536 := by
  unfold Co.num Co.raw
  split
  · exact (by decide : Co.beVal [] < 65536)
  · split
    · exact (by decide : Co.beVal [] < 65536)
    · show Co.beVal (s.rem.take 2) < 65536
      rcases s.rem with _ | ⟨a, _ | ⟨b, t⟩⟩
      · decide
      · have := a.toNat_lt
        simp [Co.beVal]
        omega
      · have := a.toNat_lt
        have := b.toNat_lt
        simp [Co.beVal]
        omega
theorem num_lt (n : Int) (s : Co.Rs) : (Co.num n s).1 < 18446744073709551616 := Co.beVal_lt _
theorem one_eq (x : Nat) : ((x : Int) == 1) = decide (x = 1) := by rw [Bool.eq_iff_iff]; simp; omega
end Go.Proofs.Ytpblhdpnmnfieaa
