/-
  OWN WORK. What was read is what was written: plain mathematics.
-/
import Derived.Test.YtpblhdpnmnfieaaCpBase
namespace Go.Proofs.Ytpblhdpnmnfieaa
open Go.RowKit
namespace Co
theorem raw_inv (k : Nat) (s : Rs) (hk : 1 ≤ k) (h : (raw (k : Int) s).2.why = 0) : s.why = 0 ∧ (raw (k : Int) s).1.length = k ∧ s.rem = (raw (k : Int) s).1 ++ (raw (k : Int) s).2.rem := by
  unfold raw at h ⊢
  by_cases h1 : s.why ≠ 0 ∨ (k : Int) < 1
  · rw [if_pos h1] at h
    rcases h1 with h1 | h1
    · exact absurd h h1
    · omega
  · rw [if_neg h1] at h ⊢
    by_cases h2 : (s.rem.length : Int) < (k : Int)
    · rw [if_pos h2] at h
      exact absurd h (by simp)
    · rw [if_neg h2] at h ⊢
      refine ⟨h, ?_, ?_⟩
      · show (s.rem.take (k : Int).toNat).length = k
        rw [List.length_take]; omega
      · show s.rem = s.rem.take (k : Int).toNat ++ s.rem.drop (k : Int).toNat
        rw [List.take_append_drop]
theorem num_inv (k : Nat) (s : Rs) (hk : 1 ≤ k) (h : (num (k : Int) s).2.why = 0) : s.why = 0 ∧ ∃ x : List UInt8, x.length = k ∧ (num (k : Int) s).1 = beVal x ∧ s.rem = x ++ (num (k : Int) s).2.rem := by
  obtain ⟨h1, h2, h3⟩ := raw_inv k s hk h
  exact ⟨h1, _, h2, rfl, h3⟩
theorem byte_inv (s : Rs) (h : (num 1 s).2.why = 0) : s.why = 0 ∧ (num 1 s).1 < 256 ∧ s.rem = wByte (num 1 s).1 ++ (num 1 s).2.rem := by
  obtain ⟨h1, x, h2, h3, h4⟩ := num_inv 1 s (by omega) h
  have h5 : (num 1 s).1 = beVal x := h3
  have h6 : s.rem = x ++ (num 1 s).2.rem := h4
  match x, h2 with
  | [a], _ =>
    have ha := a.toNat_lt
    have e : beVal [a] = a.toNat := by
      simp only [beVal, List.foldl_cons, List.foldl_nil]
      omega
    rw [e] at h5
    refine ⟨h1, by omega, ?_⟩
    rw [h6, h5]
    simp [wByte]
theorem short_inv (s : Rs) (h : (num 2 s).2.why = 0) : s.why = 0 ∧ (num 2 s).1 < 65536 ∧ s.rem = wShort (num 2 s).1 ++ (num 2 s).2.rem := by
  obtain ⟨h1, x, h2, h3, h4⟩ := num_inv 2 s (by omega) h
  have h5 : (num 2 s).1 = beVal x := h3
  have h6 : s.rem = x ++ (num 2 s).2.rem := h4
  match x, h2 with
  | [a, b], _ =>
    have ha := a.toNat_lt
    have hb := b.toNat_lt
    have e : beVal [a, b] = a.toNat * 256 + b.toNat := by
      simp only [beVal, List.foldl_cons, List.foldl_nil]
      omega
    rw [e] at h5
    refine ⟨h1, by omega, ?_⟩
    rw [h6, h5]
    have e1 : UInt8.ofNat ((a.toNat * 256 + b.toNat) / 256) = a := by
      apply UInt8.toNat_inj.1
      rw [UInt8.toNat_ofNat']
      omega
    have e2 : UInt8.ofNat (a.toNat * 256 + b.toNat) = b := by
      apply UInt8.toNat_inj.1
      rw [UInt8.toNat_ofNat']
      omega
    simp only [wShort, e1, e2]
theorem long_inv (s : Rs) (h : (num 8 s).2.why = 0) : s.why = 0 ∧ (num 8 s).1 ≤ 18446744073709551615 ∧ s.rem = wLong (num 8 s).1 ++ (num 8 s).2.rem := by
  obtain ⟨h1, x, h2, h3, h4⟩ := num_inv 8 s (by omega) h
  have h5 : (num 8 s).1 = beVal x := h3
  have h6 : s.rem = x ++ (num 8 s).2.rem := h4
  match x, h2 with
  | [a0, a1, a2, a3, a4, a5, a6, a7], _ =>
    have b0 := a0.toNat_lt
    have b1 := a1.toNat_lt
    have b2 := a2.toNat_lt
    have b3 := a3.toNat_lt
    have b4 := a4.toNat_lt
    have b5 := a5.toNat_lt
    have b6 := a6.toNat_lt
    have b7 := a7.toNat_lt
    obtain ⟨v, hv⟩ : ∃ v, v = beVal [a0, a1, a2, a3, a4, a5, a6, a7] := ⟨_, rfl⟩
    have e : v = ((((((a0.toNat * 256 + a1.toNat) * 256 + a2.toNat) * 256 + a3.toNat) * 256 + a4.toNat) * 256 + a5.toNat) * 256 + a6.toNat) * 256 + a7.toNat := by
      rw [hv]
      simp only [beVal, List.foldl_cons, List.foldl_nil]
      omega
    rw [← hv] at h5
    refine ⟨h1, by omega, ?_⟩
    rw [h6, h5, wLong_is]
    have f : ∀ (d : Nat) (a : UInt8), v / d % 256 = a.toNat → UInt8.ofNat (v / d) = a := fun d a hh => by
      apply UInt8.toNat_inj.1
      rw [UInt8.toNat_ofNat']
      exact hh
    have f7 : UInt8.ofNat v = a7 := by
      apply UInt8.toNat_inj.1
      rw [UInt8.toNat_ofNat']
      omega
    rw [f 72057594037927936 a0 (by omega), f 281474976710656 a1 (by omega), f 1099511627776 a2 (by omega), f 4294967296 a3 (by omega), f 16777216 a4 (by omega), f 65536 a5 (by omega), f 256 a6 (by omega), f7]
theorem flag_inv (s : Rs) (h : (flag s).2.why = 0) : s.why = 0 ∧ s.rem = wFlag (flag s).1 ++ (flag s).2.rem := by
  by_cases h1 : 1 < (num 1 s).1
  · exfalso
    unfold flag at h
    rw [if_pos h1] at h
    exact absurd h (by simp)
  · have e : flag s = (decide ((num 1 s).1 = 1), (num 1 s).2) := by unfold flag; rw [if_neg h1]
    rw [e] at h ⊢
    obtain ⟨h2, h3, h4⟩ := byte_inv s h
    refine ⟨h2, ?_⟩
    rw [h4]
    show wByte _ ++ _ = wFlag (decide ((num 1 s).1 = 1)) ++ _
    congr 1
    rcases Nat.lt_or_ge (num 1 s).1 1 with h5 | h5
    · have h6 : (num 1 s).1 = 0 := by omega
      rw [h6]; rfl
    · have h6 : (num 1 s).1 = 1 := by omega
      rw [h6]; rfl
theorem fin_inv (s : Rs) (h : fin s = 0) : s.why = 0 ∧ s.rem = [] := by
  unfold fin at h
  by_cases h1 : s.why = 0
  · rw [if_neg (by simpa using h1)] at h
    refine ⟨h1, ?_⟩
    by_cases h2 : 0 < s.rem.length
    · rw [if_pos h2] at h
      exact absurd h (by decide)
    · exact List.eq_nil_of_length_eq_zero (by omega)
  · rw [if_pos h1] at h
    exact absurd h h1
end Co
end Go.Proofs.Ytpblhdpnmnfieaa
