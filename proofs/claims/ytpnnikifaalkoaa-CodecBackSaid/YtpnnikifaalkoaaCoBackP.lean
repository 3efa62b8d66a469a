/-
  OWN WORK. What the law CodecBack writes and reads: plain mathematics.
-/
import Derived.Test.YtpnnikifaalkoaaCoOne
import Derived.Test.YtpnnikifaalkoaaCoArgs
namespace Go.Proofs.Ytpnnikifaalkoaa
open Go.RowKit Rc

def fl (n : Nat) : Bool := decide (n % 2 = 1)
def bk (p : PartD) : List UInt8 := Co.wByte (p.n % 256) ++ (Co.wShort (p.n % 65536) ++ (Co.wLong p.n ++ (Co.wFlag (fl p.n) ++ Co.wBytes (p.x.take 60))))
def backs (l : List PartD) : List UInt8 := l.flatMap bk
theorem bk_len (p : PartD) : (bk p).length ≤ 74 := by
  simp only [bk, List.length_append, Co.wLong_length, Co.wByte, Co.wShort, Co.wFlag, Co.wBytes, List.length_cons, List.length_nil, List.length_take]
  omega
theorem backs_len : ∀ l : List PartD, (backs l).length ≤ 74 * l.length
  | [] => Nat.le_refl _
  | p :: l => by
    have h1 := backs_len l
    have h2 := bk_len p
    simp only [backs, List.flatMap_cons, List.length_append, List.length_cons] at *
    omega
theorem backs_snoc (ps : List PartD) (j : Nat) (p : PartD) (h : ps[j]? = some p) : backs (ps.take (j + 1)) = backs (ps.take j) ++ Co.wByte (p.n % 256) ++ Co.wShort (p.n % 65536) ++ Co.wLong p.n ++ Co.wFlag (fl p.n) ++ Co.wBytes (p.x.take 60) := by
  rw [List.take_add_one, h]
  simp [backs, bk]
def BSt (ps : List PartD) (i : Nat) : Co.Rs := ⟨backs (ps.drop i), 0⟩
theorem bst (ps : List PartD) (i : Nat) (p : PartD) (h : ps[i]? = some p) (hn : p.n ≤ 18446744073709551615) :
    ∃ s1 s2 s3 s4, Co.num 1 (BSt ps i) = (p.n % 256, s1) ∧ Co.num 2 s1 = (p.n % 65536, s2) ∧ Co.num 8 s2 = (p.n, s3) ∧ Co.flag s3 = (fl p.n, s4) ∧ Co.bytes s4 = (p.x.take 60, BSt ps (i + 1)) := by
  obtain ⟨h1, h2⟩ := List.getElem?_eq_some_iff.1 h
  have e : BSt ps i = ⟨Co.wByte (p.n % 256) ++ (Co.wShort (p.n % 65536) ++ (Co.wLong p.n ++ (Co.wFlag (fl p.n) ++ (Co.wBytes (p.x.take 60) ++ backs (ps.drop (i + 1)))))), 0⟩ := by
    unfold BSt
    rw [List.drop_eq_getElem_cons h1, h2]
    simp [backs, bk]
  rw [e]
  refine ⟨⟨Co.wShort (p.n % 65536) ++ (Co.wLong p.n ++ (Co.wFlag (fl p.n) ++ (Co.wBytes (p.x.take 60) ++ backs (ps.drop (i + 1))))), 0⟩, ⟨Co.wLong p.n ++ (Co.wFlag (fl p.n) ++ (Co.wBytes (p.x.take 60) ++ backs (ps.drop (i + 1)))), 0⟩, ⟨Co.wFlag (fl p.n) ++ (Co.wBytes (p.x.take 60) ++ backs (ps.drop (i + 1))), 0⟩, ⟨Co.wBytes (p.x.take 60) ++ backs (ps.drop (i + 1)), 0⟩, ?_, ?_, Co.num_long _ hn _, Co.flag_app _ _, Co.bytes_app _ _ (by rw [List.length_take]; omega)⟩
  · rw [Co.num_byte, Nat.mod_mod]
  · rw [Co.num_short, Nat.mod_mod]
theorem and_255 (a : Nat) (ha : a ≤ 18446744073709551615) : bits .and .u64 (a : Int) 255 = ((a % 256 : Nat) : Int) := by
  show IntKind.u64.wrap ((BitVec.ofInt 64 (a : Int) &&& BitVec.ofInt 64 (255 : Int)).toNat : Int) = _
  rw [BitVec.toNat_and, BitVec.ofInt_natCast, BitVec.toNat_ofNat, Nat.mod_eq_of_lt (show a < 2 ^ 64 by omega), show (BitVec.ofInt 64 (255 : Int)).toNat = 2 ^ 8 - 1 by decide, Nat.and_two_pow_sub_one_eq_mod]
  exact IntWalk.u64_in _ (by omega)
theorem and_65535 (a : Nat) (ha : a ≤ 18446744073709551615) : bits .and .u64 (a : Int) 65535 = ((a % 65536 : Nat) : Int) := by
  show IntKind.u64.wrap ((BitVec.ofInt 64 (a : Int) &&& BitVec.ofInt 64 (65535 : Int)).toNat : Int) = _
  rw [BitVec.toNat_and, BitVec.ofInt_natCast, BitVec.toNat_ofNat, Nat.mod_eq_of_lt (show a < 2 ^ 64 by omega), show (BitVec.ofInt 64 (65535 : Int)).toNat = 2 ^ 16 - 1 by decide, Nat.and_two_pow_sub_one_eq_mod]
  exact IntWalk.u64_in _ (by omega)
/-- What the law makes of a part's number. -/
structure Nums (n g1 g2 g3 : Nat) (f : Bool) : Prop where
  a1 : bits .and .u64 (n : Int) 255 = (g1 : Int)
  a2 : bits .and .u64 (n : Int) 65535 = (g2 : Int)
  a3 : (n : Int) % 2 = (g3 : Int)
  b1 : g1 < 256
  b2 : g2 < 65536
  e1 : g1 = n % 256
  e2 : g2 = n % 65536
  ef : f = fl n
  eq : ((g3 : Int) == 1) = f
  i1 : IntKind.i64.wrap (g1 : Int) = g1
  i2 : IntKind.i64.wrap (g2 : Int) = g2
theorem nums (n : Nat) (hn : n ≤ 18446744073709551615) : ∃ g1 g2 g3 f, Nums n g1 g2 g3 f := by
  refine ⟨n % 256, n % 65536, n % 2, fl n, and_255 n hn, and_65535 n hn, by omega, by omega, by omega, rfl, rfl, rfl, ?_, IntWalk.i64_in _ (by omega), IntWalk.i64_in _ (by omega)⟩
  unfold fl
  by_cases h : n % 2 = 1
  · rw [h]; rfl
  · have : n % 2 = 0 := by omega
    rw [this]; rfl
end Go.Proofs.Ytpnnikifaalkoaa
