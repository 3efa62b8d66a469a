/-
  OWN WORK. SHA-256, plain: the message that is ended as the document says, and the stream's own ending, come to one hash.
-/
import Derived.Test.YtjeclmbableacaaDoorShRefM
namespace Go.Proofs.YtjeclmbableacaaDoor
namespace Sh
theorem word4_sum (a b c d : UInt8) : word4 a b c d = (a.toNat : Int) * 16777216 + b.toNat * 65536 + c.toNat * 256 + d.toNat := by
  have ha := a.toNat_lt
  have hb := b.toNat_lt
  have hc := c.toNat_lt
  have hd := d.toNat_lt
  unfold word4
  generalize a.toNat = A at *
  generalize b.toNat = B at *
  generalize c.toNat = C at *
  generalize d.toNat = D at *
  have e1 : bits .or .u32 ((A : Int) * 16777216) ((B : Int) * 65536) = ((A * 16777216 + B * 65536 : Nat) : Int) := by
    have h := u32_or_nat (A * 16777216) (B * 65536) (by omega) (by omega)
    have h2 := Nat.two_pow_add_eq_or_of_lt (i := 24) (b := B * 65536) (by omega) A
    have e : 2 ^ 24 * A = A * 16777216 := by omega
    rw [e] at h2
    rw [← h2] at h
    simpa using h
  have e2 : bits .or .u32 ((A * 16777216 + B * 65536 : Nat) : Int) ((C : Int) * 256) = ((A * 16777216 + B * 65536 + C * 256 : Nat) : Int) := by
    have h := u32_or_nat (A * 16777216 + B * 65536) (C * 256) (by omega) (by omega)
    have h2 := Nat.two_pow_add_eq_or_of_lt (i := 16) (b := C * 256) (by omega) (A * 256 + B)
    have e : 2 ^ 16 * (A * 256 + B) = A * 16777216 + B * 65536 := by omega
    rw [e] at h2
    rw [← h2] at h
    simpa using h
  have e3 : bits .or .u32 ((A * 16777216 + B * 65536 + C * 256 : Nat) : Int) (D : Int) = ((A * 16777216 + B * 65536 + C * 256 + D : Nat) : Int) := by
    have h := u32_or_nat (A * 16777216 + B * 65536 + C * 256) D (by omega) (by omega)
    have h2 := Nat.two_pow_add_eq_or_of_lt (i := 8) (b := D) (by omega) (A * 65536 + B * 256 + C)
    have e : 2 ^ 8 * (A * 65536 + B * 256 + C) = A * 16777216 + B * 65536 + C * 256 := by omega
    rw [e] at h2
    rw [← h2] at h
    exact h
  rw [e1, e2, e3]
  omega
theorem wordAt_congr (P Q : List UInt8) (i : Nat) (h : ∀ k, 4 * i ≤ k → k < 4 * i + 4 → P.getD k 0 = Q.getD k 0) : wordAt P i = wordAt Q i := by
  unfold wordAt
  rw [h _ (by omega) (by omega), h (4 * i + 1) (by omega) (by omega), h (4 * i + 2) (by omega) (by omega), h (4 * i + 3) (by omega) (by omega)]
theorem getD_app (P Q : List UInt8) (k : Nat) : (P ++ Q).getD k 0 = if k < P.length then P.getD k 0 else Q.getD (k - P.length) 0 := by
  by_cases h : k < P.length
  · rw [if_pos h]; simp [List.getD, List.getElem?_append_left h]
  · rw [if_neg h]; simp [List.getD, List.getElem?_append_right (by omega : P.length ≤ k)]
theorem getD_nul (n k : Nat) : (List.replicate n (0 : UInt8)).getD k 0 = 0 := by
  simp only [List.getD, List.getElem?_replicate]
  split <;> rfl
theorem getD_mark (r : List UInt8) (z k : Nat) : (r ++ 128 :: List.replicate z 0).getD k 0 = (r ++ [128]).getD k 0 := by
  rw [getD_app, getD_app]
  split
  · rfl
  · rcases h : k - r.length with _ | j
    · rfl
    · show (List.replicate z (0 : UInt8)).getD j 0 = ([] : List UInt8).getD j 0
      rw [getD_nul]
      rfl
theorem be8_hi (n : Nat) : word4 ((be8 ((n : Int) * 8)).getD 0 0) ((be8 ((n : Int) * 8)).getD 1 0) ((be8 ((n : Int) * 8)).getD 2 0) ((be8 ((n : Int) * 8)).getD 3 0) = bitsHi n := by
  show word4 (byteOf ((n : Int) * 8 / 72057594037927936)) (byteOf ((n : Int) * 8 / 281474976710656)) (byteOf ((n : Int) * 8 / 1099511627776)) (byteOf ((n : Int) * 8 / 4294967296)) = _
  rw [word4_sum, byteOf_toNat, byteOf_toNat, byteOf_toNat, byteOf_toNat]
  unfold bitsHi
  omega
theorem be8_lo (n : Nat) : word4 ((be8 ((n : Int) * 8)).getD 4 0) ((be8 ((n : Int) * 8)).getD 5 0) ((be8 ((n : Int) * 8)).getD 6 0) ((be8 ((n : Int) * 8)).getD 7 0) = bitsLo n := by
  show word4 (byteOf ((n : Int) * 8 / 16777216)) (byteOf ((n : Int) * 8 / 65536)) (byteOf ((n : Int) * 8 / 256)) (byteOf ((n : Int) * 8 / 1)) = _
  rw [word4_sum, byteOf_toNat, byteOf_toNat, byteOf_toNat, byteOf_toNat]
  unfold bitsLo
  omega
theorem ended_get (b : List Int) (n i : Nat) (hb : b.length = 16) (hi : i < 16) : (ended b n).getD i 0 = if i = 14 then bitsHi n else if i = 15 then bitsLo n else b.getD i 0 := by
  unfold ended
  simp only [List.getD, List.getElem?_set]
  by_cases h14 : i = 14
  · subst h14
    simp [hb]
  · by_cases h15 : i = 15
    · subst h15
      simp [hb]
    · have h1 : ¬ 15 = i := fun e => h15 e.symm
      have h2 : ¬ 14 = i := fun e => h14 e.symm
      simp [h1, h2, h14, h15]
theorem list16 (P Q : List Int) (hp : P.length = 16) (hq : Q.length = 16) (h : ∀ i, i < 16 → P.getD i 0 = Q.getD i 0) : P = Q := by
  apply List.ext_getElem (by rw [hp, hq])
  intro i h1 h2
  have := h i (by omega)
  simpa [List.getD, List.getElem?_eq_getElem h1, List.getElem?_eq_getElem h2] using this
theorem wordsOf_get (b : List UInt8) (i : Nat) (hi : i < 16) : (wordsOf b).getD i 0 = wordAt (b ++ [128]) i := by
  simp [wordsOf, List.getD, hi]
theorem ended_len (b : List Int) (n : Nat) (hb : b.length = 16) : (ended b n).length = 16 := by simp [ended, hb]

/-- A block whose first 56 bytes are those of r, and whose last are the length's. -/
theorem last_block (_r X : List UInt8) (n : Nat) (b : List Int) (hb : b.length = 16) (hX : X.length = 56) (h : ∀ i, i < 14 → wordAt X i = b.getD i 0) : wordsOf (X ++ be8 ((n : Int) * 8)) = ended b n := by
  apply list16 _ _ (wordsOf_length _) (ended_len _ _ hb)
  intro i hi
  rw [wordsOf_get _ _ hi, ended_get _ _ _ hb hi, wordAt_append _ _ _ (by rw [List.length_append, hX, be8_length]; omega)]
  have e : ∀ k, k < 8 → (X ++ be8 ((n : Int) * 8)).getD (56 + k) 0 = (be8 ((n : Int) * 8)).getD k 0 := by
    intro k hk
    rw [getD_app, if_neg (by omega), hX, Nat.add_sub_cancel_left]
  by_cases h14 : i = 14
  · subst h14
    rw [if_pos rfl]
    show word4 ((X ++ be8 ((n : Int) * 8)).getD (56 + 0) 0) ((X ++ be8 ((n : Int) * 8)).getD (56 + 1) 0) ((X ++ be8 ((n : Int) * 8)).getD (56 + 2) 0) ((X ++ be8 ((n : Int) * 8)).getD (56 + 3) 0) = _
    rw [e _ (by omega), e _ (by omega), e _ (by omega), e _ (by omega)]
    exact be8_hi n
  · by_cases h15 : i = 15
    · subst h15
      rw [if_neg (by omega), if_pos rfl]
      show word4 ((X ++ be8 ((n : Int) * 8)).getD (56 + 4) 0) ((X ++ be8 ((n : Int) * 8)).getD (56 + 5) 0) ((X ++ be8 ((n : Int) * 8)).getD (56 + 6) 0) ((X ++ be8 ((n : Int) * 8)).getD (56 + 7) 0) = _
      rw [e _ (by omega), e _ (by omega), e _ (by omega), e _ (by omega)]
      exact be8_lo n
    · rw [if_neg h14, if_neg h15, wordAt_append _ _ _ (by rw [hX]; omega)]
      exact h i (by omega)

theorem padded_sum (l : List UInt8) : hashTo (padded l) ((padded l).length / 64) = sumW l := by
  have hr := rest_length l
  have hlen : (padded l).length = l.length + 1 + zerosN l.length + 8 := by simp [padded, opened, be8_length]; omega
  have hrest : l = l.take (64 * (l.length / 64)) ++ rest l := by unfold rest; simp
  have hdrop : ∀ Y : List UInt8, (l ++ Y).drop (64 * (l.length / 64)) = rest l ++ Y := by
    intro Y
    rw [List.drop_append_of_le_length (by omega)]
    rfl
  have hpad : padded l = l ++ (128 :: List.replicate (zerosN l.length) 0 ++ be8 ((l.length : Int) * 8)) := by
    unfold padded opened
    rw [List.append_assoc]
  have hq : hashTo (padded l) (l.length / 64) = hashTo l (l.length / 64) := by rw [hpad]; exact hashTo_append _ _ _ (by omega)
  unfold sumW
  by_cases h56 : 56 ≤ (rest l).length
  · rw [if_pos h56]
    have hz : zerosN l.length = (63 - (rest l).length) + 56 := by unfold zerosN; omega
    have hn : (padded l).length / 64 = l.length / 64 + 1 + 1 := by rw [hlen, hz]; omega
    rw [hn, hashTo, hashTo, hq]
    have hd1 : (padded l).drop (64 * (l.length / 64)) = (rest l ++ 128 :: List.replicate (63 - (rest l).length) 0) ++ (List.replicate 56 0 ++ be8 ((l.length : Int) * 8)) := by
      rw [hpad, hdrop, hz, ← List.replicate_append_replicate]
      simp
    have hl1 : (rest l ++ 128 :: List.replicate (63 - (rest l).length) 0).length = 64 := by simp; omega
    have hd2 : (padded l).drop (64 * (l.length / 64 + 1)) = List.replicate 56 0 ++ be8 ((l.length : Int) * 8) := by
      rw [show 64 * (l.length / 64 + 1) = 64 * (l.length / 64) + 64 by omega, ← List.drop_drop, hd1, ← hl1, List.drop_left]
    rw [hd1, hd2]
    have ht1 : ((rest l ++ 128 :: List.replicate (63 - (rest l).length) 0) ++ (List.replicate 56 0 ++ be8 ((l.length : Int) * 8))).take 64 = rest l ++ 128 :: List.replicate (63 - (rest l).length) 0 := by
      rw [← hl1, List.take_left]
    have ht2 : (List.replicate 56 (0 : UInt8) ++ be8 ((l.length : Int) * 8)).take 64 = List.replicate 56 0 ++ be8 ((l.length : Int) * 8) := List.take_of_length_le (by simp [be8_length])
    rw [ht1, ht2]
    have hw1 : wordsOf (rest l ++ 128 :: List.replicate (63 - (rest l).length) 0) = wordsOf (rest l) := by
      apply list16 _ _ (wordsOf_length _) (wordsOf_length _)
      intro i hi
      rw [wordsOf_get _ _ hi, wordsOf_get _ _ hi, wordAt_append _ _ _ (by omega)]
      exact wordAt_congr _ _ _ (fun k _ _ => getD_mark _ _ _)
    rw [hw1, last_block [] (List.replicate 56 0) l.length (List.replicate 16 0) (by simp) (by simp) (by
      intro i hi
      have : wordAt (List.replicate 56 (0 : UInt8)) i = wordAt [] i := wordAt_congr _ _ _ (fun k _ _ => by rw [getD_nul]; rfl)
      rw [this, wordAt_far [] i (by simp)]
      simp only [List.getD, List.getElem?_replicate]
      split <;> rfl)]
  · rw [if_neg h56]
    have hz : zerosN l.length = 55 - (rest l).length := by unfold zerosN; omega
    have hn : (padded l).length / 64 = l.length / 64 + 1 := by rw [hlen, hz]; omega
    rw [hn, hashTo, hq]
    have hd1 : (padded l).drop (64 * (l.length / 64)) = (rest l ++ 128 :: List.replicate (55 - (rest l).length) 0) ++ be8 ((l.length : Int) * 8) := by
      rw [hpad, hdrop, hz]
      simp
    have hl1 : (rest l ++ 128 :: List.replicate (55 - (rest l).length) 0).length = 56 := by simp; omega
    rw [hd1, List.take_of_length_le (by rw [List.length_append, hl1, be8_length]; omega)]
    rw [last_block (rest l) _ l.length (wordsOf (rest l)) (wordsOf_length _) hl1 (by
      intro i hi
      rw [wordsOf_get _ _ (by omega)]
      exact wordAt_congr _ _ _ (fun k _ _ => getD_mark _ _ _))]
end Sh
end Go.Proofs.YtjeclmbableacaaDoor
