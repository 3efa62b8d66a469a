/-
  OWN WORK. Up to four bytes in a row that are turned turn the sum: the mathematics.
-/
import Derived.Test.YtdopgnfggpdfoaaDoorCrSaid
import Derived.Test.YtdopgnfggpdfoaaDoorBaSet
namespace Go.Proofs.YtdopgnfggpdfoaaDoor
open Go.RowKit
namespace Cr
/-- So many bytes from k on, turned by those of ts. -/
def turnTo (b ts : List UInt8) (k : Nat) : Nat → List UInt8
  | 0 => b
  | i + 1 => (turnTo b ts k i).set (k + i) (b.getD (k + i) 0 ^^^ ts.getD i 0)
theorem turnTo_length (b ts : List UInt8) (k : Nat) : ∀ i, (turnTo b ts k i).length = b.length
  | 0 => rfl
  | i + 1 => by simp [turnTo, turnTo_length b ts k i]
theorem turnTo_get (b ts : List UInt8) (k : Nat) : ∀ (i j : Nat), j < b.length → (turnTo b ts k i).getD j 0 = if k ≤ j ∧ j < k + i then b.getD j 0 ^^^ ts.getD (j - k) 0 else b.getD j 0
  | 0, j, _ => by rw [if_neg (by omega)]; rfl
  | i + 1, j, hj => by
    have ih := turnTo_get b ts k i j hj
    have hl := turnTo_length b ts k i
    simp only [List.getD] at ih ⊢
    rw [turnTo]
    by_cases e : k + i = j
    · subst e
      rw [List.getElem?_set_self (by omega), if_pos (by omega), Nat.add_sub_cancel_left]
      simp [List.getD]
    · rw [List.getElem?_set_ne e, ih]
      by_cases h : k ≤ j ∧ j < k + i
      · rw [if_pos h, if_pos (by omega)]
      · rw [if_neg h, if_neg (by omega)]
def sameB (ts : List UInt8) : Nat → Bool
  | 0 => true
  | i + 1 => sameB ts i && (ts.getD i 0 == 0)
theorem sameB_iff (ts : List UInt8) : ∀ i, sameB ts i = true ↔ ∀ j, j < i → ts.getD j 0 = 0
  | 0 => by simp [sameB]
  | i + 1 => by
    simp only [sameB, Bool.and_eq_true, sameB_iff ts i, beq_iff_eq]
    constructor
    · rintro ⟨h1, h2⟩ j hj
      by_cases e : j = i
      · subst e; exact h2
      · exact h1 j (by omega)
    · intro h
      exact ⟨fun j hj => h j (by omega), h i (by omega)⟩
theorem run_zeros : ∀ n, run 0 (List.replicate n 0) = 0
  | 0 => rfl
  | n + 1 => by
    show run (byt (0 ^^^ (0 : UInt8).toNat)) (List.replicate n 0) = 0
    have : byt (0 ^^^ (0 : UInt8).toNat) = 0 := by decide
    rw [this, run_zeros n]
theorem run_four (D : List UInt8) (h : D.length ≤ 4) (hz : run 0 D = 0) : ∀ j, D.getD j 0 = 0 := by
  have b0 : byt 0 = 0 := by decide
  have key : ∀ d0 d1 d2 d3 : UInt8, run 0 [d0, d1, d2, d3] = 0 → d0 = 0 ∧ d1 = 0 ∧ d2 = 0 ∧ d3 = 0 := by
    intro d0 d1 d2 d3 hr
    have h1 : byt (byt (byt (byt d0.toNat ^^^ d1.toNat) ^^^ d2.toNat) ^^^ d3.toNat) = 0 := by
      have : run 0 [d0, d1, d2, d3] = byt (byt (byt (byt (0 ^^^ d0.toNat) ^^^ d1.toNat) ^^^ d2.toNat) ^^^ d3.toNat) := rfl
      rw [this, Nat.zero_xor] at hr
      exact hr
    obtain ⟨a, b, c, d⟩ := four _ _ _ _ d0.toNat_lt d1.toNat_lt d2.toNat_lt d3.toNat_lt h1
    exact ⟨UInt8.toNat_inj.1 a, UInt8.toNat_inj.1 b, UInt8.toNat_inj.1 c, UInt8.toNat_inj.1 d⟩
  have pad : ∀ (n : Nat) (E : List UInt8), run 0 (List.replicate n 0 ++ E) = run 0 E := fun n E => by rw [run_append, run_zeros]
  intro j
  match D, h with
  | [], _ => rfl
  | [a], _ =>
    have := key 0 0 0 a (by rw [show [0, 0, 0, a] = List.replicate 3 (0 : UInt8) ++ [a] from rfl, pad]; exact hz)
    match j with
    | 0 => exact this.2.2.2
    | _ + 1 => rfl
  | [a, b], _ =>
    have := key 0 0 a b (by rw [show [0, 0, a, b] = List.replicate 2 (0 : UInt8) ++ [a, b] from rfl, pad]; exact hz)
    match j with
    | 0 => exact this.2.2.1
    | 1 => exact this.2.2.2
    | _ + 2 => rfl
  | [a, b, c], _ =>
    have := key 0 a b c (by rw [show [0, a, b, c] = List.replicate 1 (0 : UInt8) ++ [a, b, c] from rfl, pad]; exact hz)
    match j with
    | 0 => exact this.2.1
    | 1 => exact this.2.2.1
    | 2 => exact this.2.2.2
    | _ + 3 => rfl
  | [a, b, c, d], _ =>
    have := key a b c d hz
    match j with
    | 0 => exact this.1
    | 1 => exact this.2.1
    | 2 => exact this.2.2.1
    | 3 => exact this.2.2.2
    | _ + 4 => rfl
  | _ :: _ :: _ :: _ :: _ :: _, h => simp at h
theorem turned_diff (b ts : List UInt8) (k m : Nat) (hk : k + m ≤ b.length) : List.zipWith (· ^^^ ·) (turnTo b ts k m) b = List.replicate k 0 ++ ((List.range m).map (fun i => ts.getD i 0) ++ List.replicate (b.length - k - m) 0) := by
  apply List.ext_getElem?
  intro j
  by_cases hj : j < b.length
  · have h1 : (turnTo b ts k m)[j]? = some ((turnTo b ts k m).getD j 0) := by simp [List.getD, List.getElem?_eq_getElem (show j < (turnTo b ts k m).length by rw [turnTo_length]; exact hj)]
    have h2 : b[j]? = some (b.getD j 0) := by simp [List.getD, List.getElem?_eq_getElem hj]
    rw [List.getElem?_zipWith, h1, h2, turnTo_get _ _ _ _ _ hj]
    simp only []
    by_cases c1 : j < k
    · rw [if_neg (by omega), List.getElem?_append_left (by simpa using c1), List.getElem?_replicate, if_pos c1, UInt8.xor_self]
    · rw [List.getElem?_append_right (by simp; omega), List.length_replicate]
      by_cases c2 : j < k + m
      · rw [if_pos (by omega), List.getElem?_append_left (by simp; omega), List.getElem?_map, List.getElem?_range (by omega)]
        simp only [Option.map_some, Option.some.injEq]
        rw [UInt8.xor_comm (b.getD j 0), UInt8.xor_assoc, UInt8.xor_self, UInt8.xor_zero]
      · rw [if_neg (by omega), List.getElem?_append_right (by simp; omega), List.getElem?_replicate, if_pos (by simp; omega), UInt8.xor_self]
  · rw [List.getElem?_eq_none (by simp [turnTo_length]; omega), List.getElem?_eq_none (by simp; omega)]
theorem turned_sum (b ts : List UInt8) (k m : Nat) (hm : m ≤ 4) (hk : k + m ≤ b.length) : Cr.sum (turnTo b ts k m) = Cr.sum b ↔ sameB ts m = true := by
  have h1 := run_xor (turnTo b ts k m) b ones ones (turnTo_length _ _ _ _)
  rw [Nat.xor_self, turned_diff b ts k m hk, run_append, run_zeros, run_append] at h1
  have hlt : run 0 ((List.range m).map fun i => ts.getD i 0) < 2 ^ 32 := run_lt _ (by decide)
  have hz := run_zeros (b.length - k - m)
  rw [sameB_iff]
  constructor
  · intro h
    have h2 : run ones (turnTo b ts k m) = run ones b := by
      have := congrArg (· ^^^ ones) h
      unfold Cr.sum at this
      simpa [Nat.xor_assoc] using this
    rw [h2, Nat.xor_self] at h1
    have h3 : run 0 ((List.range m).map fun i => ts.getD i 0) = 0 := run_inj (List.replicate (b.length - k - m) 0) hlt (by decide) (by rw [← h1, hz])
    intro j hj
    have := run_four _ (by simpa using hm) h3 j
    simpa [List.getD, hj] using this
  · intro h
    have h2 : turnTo b ts k m = b := by
      apply List.ext_getElem?
      intro j
      by_cases hj : j < b.length
      · have e1 : (turnTo b ts k m)[j]? = some ((turnTo b ts k m).getD j 0) := by simp [List.getD, List.getElem?_eq_getElem (show j < (turnTo b ts k m).length by rw [turnTo_length]; exact hj)]
        have e2 : b[j]? = some (b.getD j 0) := by simp [List.getD, List.getElem?_eq_getElem hj]
        rw [e1, e2, turnTo_get _ _ _ _ _ hj]
        split
        · rename_i c
          rw [h (j - k) (by omega), UInt8.xor_zero]
        · rfl
      · rw [List.getElem?_eq_none (by rw [turnTo_length]; omega), List.getElem?_eq_none (by omega)]
    rw [h2]
end Cr
end Go.Proofs.YtdopgnfggpdfoaaDoor
