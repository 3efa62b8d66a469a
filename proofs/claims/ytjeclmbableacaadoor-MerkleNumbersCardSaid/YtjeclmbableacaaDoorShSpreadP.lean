/-
  OWN WORK. SHA-256, plain: the words of the rounds one by one; the document's own way of a round.
-/
import Derived.Test.YtjeclmbableacaaDoorShBytes
namespace Go.Proofs.YtjeclmbableacaaDoor
namespace Sh

theorem spreadTo_prefix (ws : List Int) (n m : Nat) (h : n ≤ m) : (spreadTo ws m).take (ws.length + n) = spreadTo ws n := by
  induction m with
  | zero =>
    obtain rfl : n = 0 := by omega
    simp [spreadTo]
  | succ m ih =>
    rcases Nat.lt_or_ge n (m + 1) with hlt | hge
    · rw [spreadTo, List.take_append_of_le_length (by rw [spreadTo_length]; omega)]
      exact ih (by omega)
    · obtain rfl : n = m + 1 := by omega
      rw [List.take_of_length_le (by rw [spreadTo_length]; omega)]
theorem getD_take (l : List Int) (i n : Nat) (h : i < n) : (l.take n).getD i 0 = l.getD i 0 := by
  simp [List.getD, h]
theorem spread_low (ws : List Int) (hw : ws.length = 16) (i : Nat) (hi : i < 16) : (spread ws).getD i 0 = ws.getD i 0 := by
  have h := spreadTo_prefix ws 0 48 (by omega)
  rw [Nat.add_zero, hw] at h
  have h2 : ((spread ws).take 16).getD i 0 = (spread ws).getD i 0 := getD_take _ _ _ hi
  rw [← h2]
  unfold spread
  rw [h]
  rfl
theorem spread_at (ws : List Int) (hw : ws.length = 16) (n : Nat) (hn : n < 48) : (spread ws).getD (16 + n) 0 = more (spreadTo ws n) (16 + n) := by
  have h := spreadTo_prefix ws (n + 1) 48 (by omega)
  rw [hw] at h
  have h2 : ((spread ws).take (16 + (n + 1))).getD (16 + n) 0 = (spread ws).getD (16 + n) 0 := getD_take _ _ _ (by omega)
  rw [← h2]
  unfold spread
  rw [h, spreadTo]
  have hl : (spreadTo ws n).length = 16 + n := by rw [spreadTo_length, hw]
  simp [List.getD, hl]
theorem spread_getD (ws : List Int) (hw : ws.length = 16) (n j : Nat) (hn : n ≤ 48) (hj : j < 16 + n) : (spreadTo ws n).getD j 0 = (spread ws).getD j 0 := by
  have h := spreadTo_prefix ws n 48 hn
  rw [hw] at h
  have h2 : ((spread ws).take (16 + n)).getD j 0 = (spread ws).getD j 0 := getD_take _ _ _ hj
  rw [← h2]
  unfold spread
  rw [h]
/-- A word behind the sixteenth, out of those ahead of it. -/
theorem spread_more (ws : List Int) (hw : ws.length = 16) (i : Nat) (h16 : 16 ≤ i) (hi : i < 64) :
    (spread ws).getD i 0 = ((spread ws).getD (i - 16) 0 + small0 ((spread ws).getD (i - 15) 0) + (spread ws).getD (i - 7) 0 + small1 ((spread ws).getD (i - 2) 0)) % 4294967296 := by
  obtain ⟨n, rfl⟩ : ∃ n, i = 16 + n := ⟨i - 16, by omega⟩
  rw [spread_at ws hw n (by omega)]
  unfold more
  rw [spread_getD ws hw n _ (by omega) (by omega), spread_getD ws hw n _ (by omega) (by omega), spread_getD ws hw n _ (by omega) (by omega), spread_getD ws hw n _ (by omega) (by omega)]
theorem take_snoc (S : List Int) (i : Nat) (hi : i < S.length) : S.take (i + 1) = S.take i ++ [S.getD i 0] := by
  rw [List.take_succ_eq_append_getElem hi]
  simp [List.getElem?_eq_getElem hi]

/-- The document adds up the two halves of a round the other way. -/
theorem next_doc (x0 x1 x2 x3 x4 x5 x6 x7 xk xw : Int) : (x7 + big1 x4 + cho x4 x5 x6 + xk + xw + (big0 x0 + maj x0 x1 x2)) % 4294967296 = (Reg.next ⟨x0, x1, x2, x3, x4, x5, x6, x7⟩ xk xw).a := by
  unfold Reg.next Reg.one
  generalize big1 x4 = p; generalize cho x4 x5 x6 = q; generalize big0 x0 = r; generalize maj x0 x1 x2 = s
  show _ = ((x7 + p + q + xk + xw) % 4294967296 + r + s) % 4294967296
  omega
theorem next_doc_e (x0 x1 x2 x3 x4 x5 x6 x7 xk xw : Int) : (x3 + (x7 + big1 x4 + cho x4 x5 x6 + xk + xw)) % 4294967296 = (Reg.next ⟨x0, x1, x2, x3, x4, x5, x6, x7⟩ xk xw).e := by
  unfold Reg.next Reg.one
  generalize big1 x4 = p; generalize cho x4 x5 x6 = q
  show _ = (x3 + (x7 + p + q + xk + xw) % 4294967296) % 4294967296
  omega

/-- The words of a block, as they stand in the message. -/
theorem wordsOf_block (M : List UInt8) (k i : Nat) (hk : 64 * k + 64 ≤ M.length) (hi : i < 16) : (wordsOf ((M.drop (64 * k)).take 64)).getD i 0 = word4 (M.getD (64 * k + 4 * i) 0) (M.getD (64 * k + 4 * i + 1) 0) (M.getD (64 * k + 4 * i + 2) 0) (M.getD (64 * k + 4 * i + 3) 0) := by
  have hl : ((M.drop (64 * k)).take 64).length = 64 := by rw [List.length_take, List.length_drop]; omega
  have h1 : (wordsOf ((M.drop (64 * k)).take 64)).getD i 0 = wordAt ((M.drop (64 * k)).take 64 ++ [128]) i := by
    simp [wordsOf, List.getD, hi]
  rw [h1, wordAt_append _ _ _ (by omega)]
  have e : ∀ j, j < 64 → ((M.drop (64 * k)).take 64).getD j 0 = M.getD (64 * k + j) 0 := by
    intro j hj
    simp [List.getD, hj, List.getElem?_drop]
  unfold wordAt
  rw [e _ (by omega), e _ (by omega), e _ (by omega), e _ (by omega)]
  rfl
end Sh
end Go.Proofs.YtjeclmbableacaaDoor
