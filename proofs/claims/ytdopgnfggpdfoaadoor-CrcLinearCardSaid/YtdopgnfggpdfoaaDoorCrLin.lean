/-
  OWN WORK. What the law CrcLinear fills; three rows and the one that all three make together.
-/
import Derived.Test.YtdopgnfggpdfoaaDoorCrSaid
import Derived.Test.YtdopgnfggpdfoaaDoorBaSet
namespace Go.Proofs.YtdopgnfggpdfoaaDoor
open Go.RowKit
namespace Cr
def cList (x n : Nat) : List UInt8 := (List.range n).map fun k => UInt8.ofNat (x + k)
theorem cList_length (x n : Nat) : (cList x n).length = n := by simp [cList]
theorem cList_get (x n k : Nat) (h : k < n) : (((cList x n).getD k 0).toNat : Int) = ((x : Int) + k) % 256 := by
  have e : (cList x n)[k]? = some (UInt8.ofNat (x + k)) := by simp [cList, h]
  have e2 : (cList x n).getD k 0 = UInt8.ofNat (x + k) := by simp [List.getD, e]
  rw [e2, UInt8.toNat_ofNat']
  omega
def dList (a b c : List UInt8) : List UInt8 := List.zipWith (· ^^^ ·) (List.zipWith (· ^^^ ·) a b) c
theorem dList_length (a b c : List UInt8) (n : Nat) (ha : a.length = n) (hb : b.length = n) (hc : c.length = n) : (dList a b c).length = n := by simp [dList, ha, hb, hc]
theorem dList_get (a b c : List UInt8) (n k : Nat) (ha : a.length = n) (hb : b.length = n) (hc : c.length = n) (h : k < n) : ((dList a b c).getD k 0).toNat = (a.getD k 0).toNat ^^^ (b.getD k 0).toNat ^^^ (c.getD k 0).toNat := by
  have e : ∀ l : List UInt8, l.length = n → l[k]? = some (l.getD k 0) := fun l hl => by simp [List.getD, List.getElem?_eq_getElem (show k < l.length by omega)]
  have e2 : (dList a b c)[k]? = some (a.getD k 0 ^^^ b.getD k 0 ^^^ c.getD k 0) := by
    unfold dList
    rw [List.getElem?_zipWith, List.getElem?_zipWith, e a ha, e b hb, e c hc]
  have e3 : (dList a b c).getD k 0 = a.getD k 0 ^^^ b.getD k 0 ^^^ c.getD k 0 := by simp only [List.getD, e2, Option.getD_some]
  rw [e3, UInt8.toNat_xor, UInt8.toNat_xor]
theorem three (a b c : List UInt8) (n : Nat) (ha : a.length = n) (hb : b.length = n) (hc : c.length = n) : Cr.sum a ^^^ Cr.sum b ^^^ Cr.sum c = Cr.sum (dList a b c) := by
  have h1 := run_xor a b ones ones (by omega)
  have h2 := run_xor (List.zipWith (· ^^^ ·) a b) c 0 ones (by simp [ha, hb, hc])
  rw [Nat.xor_self] at h1
  rw [Nat.zero_xor] at h2
  unfold Cr.sum
  show _ = run ones (List.zipWith (· ^^^ ·) (List.zipWith (· ^^^ ·) a b) c) ^^^ ones
  rw [← h2, ← h1]
  apply Nat.eq_of_testBit_eq
  intro i
  simp only [Nat.testBit_xor]
  cases (run ones a).testBit i <;> cases (run ones b).testBit i <;> cases (run ones c).testBit i <;> cases ones.testBit i <;> rfl
end Cr
open Cr

/-- Two rows that are filled, so far. -/
structure Fill (w : World) (X1 X3 : Option Addr) (k1 k3 : Nat) (L1 L3 : List UInt8) (n i j : Nat) (wr : World) : Prop where
  later : Later w wr
  one : wr.ownsRow 0 5 1 (.slice X1 n k1) n (Lib.byteCells (L1.take i ++ List.replicate (n - i) 0))
  two : wr.ownsRow 0 5 1 (.slice X3 n k3) n (Lib.byteCells (L3.take j ++ List.replicate (n - j) 0))
  far1 : ∀ b, (Value.slice X1 n k1).ownBlock = some b → w.heap.size ≤ b ∧ (Value.slice X3 n k3).ownBlock ≠ some b
  far3 : ∀ b, (Value.slice X3 n k3).ownBlock = some b → w.heap.size ≤ b ∧ (Value.slice X1 n k1).ownBlock ≠ some b
theorem Fill.put1 {w wr : World} {g1 : Nat} {X3 : Option Addr} {k1 k3 n i j : Nat} {L1 L3 : List UInt8} (h : Fill w (some ⟨g1, 0, none⟩) X3 k1 k3 L1 L3 n i j wr) (hl : L1.length = n) (hi : i < n) (X : Int) (hX : X = ((L1.getD i 0).toNat : Int)) :
    Fill w (some ⟨g1, 0, none⟩) X3 k1 k3 L1 L3 n (i + 1) j (wr.setCell ⟨g1, i, none⟩ (.int .u8 X)) := by
  have hf := h.far1 g1 rfl
  refine ⟨h.later.setCell _ hf.1 _, ?_, own_far h.two _ hf.2 _, h.far1, h.far3⟩
  have := own_set h.one i hi (L1.getD i 0) X hX
  subst hl
  rw [fill_set _ _ hi] at this
  exact this
theorem Fill.put3 {w wr : World} {g3 : Nat} {X1 : Option Addr} {k1 k3 n i j : Nat} {L1 L3 : List UInt8} (h : Fill w X1 (some ⟨g3, 0, none⟩) k1 k3 L1 L3 n i j wr) (hl : L3.length = n) (hj : j < n) (X : Int) (hX : X = ((L3.getD j 0).toNat : Int)) :
    Fill w X1 (some ⟨g3, 0, none⟩) k1 k3 L1 L3 n i (j + 1) (wr.setCell ⟨g3, j, none⟩ (.int .u8 X)) := by
  have hf := h.far3 g3 rfl
  refine ⟨h.later.setCell _ hf.1 _, own_far h.one _ hf.2 _, ?_, h.far1, h.far3⟩
  have := own_set h.two j hj (L3.getD j 0) X hX
  subst hl
  rw [fill_set _ _ hj] at this
  exact this
theorem Fill.cell1 {w wr : World} {g1 : Nat} {X3 : Option Addr} {k1 k3 n i j : Nat} {L1 L3 : List UInt8} (h : Fill w (some ⟨g1, 0, none⟩) X3 k1 k3 L1 L3 n i j wr) (hl : L1.length = n) (m : Nat) (hm : m < n) :
    ∃ v : Int, wr.cell? ⟨g1, m, none⟩ = some (.int .u8 v) ∧ wr.frozen? ⟨g1, m, none⟩ = false ∧ (m < i → v = ((L1.getD m 0).toNat : Int)) := by
  refine ⟨_, own_byte h.one m hm, own_frozen h.one m, fun hi => ?_⟩
  simp only [List.getD]
  rw [List.getElem?_append_left (by rw [List.length_take]; omega), List.getElem?_take_of_lt hi]
theorem Fill.cell3 {w wr : World} {g3 : Nat} {X1 : Option Addr} {k1 k3 n i j : Nat} {L1 L3 : List UInt8} (h : Fill w X1 (some ⟨g3, 0, none⟩) k1 k3 L1 L3 n i j wr) (m : Nat) (hm : m < n) :
    ∃ v : Int, wr.cell? ⟨g3, m, none⟩ = some (.int .u8 v) ∧ wr.frozen? ⟨g3, m, none⟩ = false :=
  ⟨_, own_byte h.two m hm, own_frozen h.two m⟩
theorem Fill.drew {w wr : World} {X1 X3 : Option Addr} {k1 k3 n i j : Nat} {L1 L3 : List UInt8} (h : Fill w X1 X3 k1 k3 L1 L3 n i j wr) : Fill w X1 X3 k1 k3 L1 L3 n i j wr.drew :=
  ⟨⟨h.later.os, h.later.tape, h.later.output, h.later.size, h.later.block⟩, h.one, h.two, h.far1, h.far3⟩
theorem Fill.full {w wr : World} {X1 X3 : Option Addr} {k1 k3 n : Nat} {L1 L3 : List UInt8} (h : Fill w X1 X3 k1 k3 L1 L3 n n n wr) (h1 : L1.length = n) (h3 : L3.length = n) : Rd wr X1 L1 ∧ L1.length ≤ k1 ∧ Rd wr X3 L3 ∧ L3.length ≤ k3 := by
  have e1 := h.one
  have e3 := h.two
  rw [Nat.sub_self, List.replicate_zero, List.append_nil, List.take_of_length_le (by omega)] at e1 e3
  rw [← h1] at e1
  rw [← h3] at e3
  obtain ⟨A, c, e, hc, hr⟩ := bRow_form (e1 : (bRow L1).holds _ wr)
  obtain ⟨A', c', e', hc', hr'⟩ := bRow_form (e3 : (bRow L3).holds _ wr)
  injection e with e1 _ e2
  injection e' with e1' _ e2'
  subst e1 e2 e1' e2'
  exact ⟨hr, hc, hr', hc'⟩
end Go.Proofs.YtdopgnfggpdfoaaDoor
