/-
  OWN WORK. Ways, blocks of numbers, blocks of bytes: as numbers.
-/
import Derived.Test.YtkjkmdhbodjeeaaBaMem
import Derived.Lib.Hide
namespace Go.Proofs.Ytkjkmdhbodjeeaa
open Go.RowKit
namespace Bm

/-- A place in a list of n. -/
def inn (x n : Int) : Bool := decide (0 ≤ x ∧ x < n)
theorem inn_pos {x n : Int} (h : 0 ≤ x ∧ x < n) : inn x n = true := decide_eq_true h
theorem inn_neg {x n : Int} (h : ¬ (0 ≤ x ∧ x < n)) : inn x n = false := decide_eq_false h

/-- Level, place, place in it, refusal: of block k. -/
def wl (k : Int) : Int := if k < 0 ∨ 276 ≤ k then 0 else if k < 4 then 0 else if k < 20 then 1 else 2
def wa (k : Int) : Int := if k < 0 ∨ 276 ≤ k then 0 else if k < 4 then k else if k < 20 then k - 4 else (k - 20) / 16
def wb (k : Int) : Int := if k < 20 ∨ 276 ≤ k then 0 else (k - 20) % 16
def we (k : Int) : Int := if k < 0 ∨ 276 ≤ k then 1 else 0
def way (k : Int) : Value := .tuple #[.int .i64 (wl k), .int .i64 (wa k), .int .i64 (wb k), .int .i64 (we k)]

/-- How many blocks of numbers n blocks need; its refusal. -/
def xn (n : Int) : Int := if n < 0 ∨ 276 < n then 0 else if n ≤ 4 then 0 else if n ≤ 20 then 1 else (n - 21) / 16 + 3
def xe (n : Int) : Int := if n < 0 ∨ 276 < n then 1 else 0
def extra (n : Int) : Value := .tuple #[.int .i64 (xn n), .int .i64 (xe n)]

/-- How many blocks hold so many bytes. -/
def bl (n : Int) : Int := if n < 1 then 0 else (n - 1) / 128 + 1

/-- What leads to some block, and to which. -/
def leads (l a b : Int) : Prop := (l = 0 ∧ 0 ≤ a ∧ a < 4 ∧ b = 0) ∨ (l = 1 ∧ 0 ≤ a ∧ a < 16 ∧ b = 0) ∨ (l = 2 ∧ 0 ≤ a ∧ a < 16 ∧ 0 ≤ b ∧ b < 16)
instance (l a b : Int) : Decidable (leads l a b) := by unfold leads; infer_instance
def bk (l a b : Int) : Int := if leads l a b then (if l = 0 then a else if l = 1 then a + 4 else a * 16 + b + 20) else 0
def be (l a b : Int) : Int := if leads l a b then 0 else 1
def back (l a b : Int) : Value := .tuple #[.int .i64 (bk l a b), .int .i64 (be l a b)]

theorem way_bk {l a b : Int} (h : leads l a b) : 0 ≤ bk l a b ∧ bk l a b < 276 ∧ wl (bk l a b) = l ∧ wa (bk l a b) = a ∧ wb (bk l a b) = b ∧ we (bk l a b) = 0 := by
  have e : bk l a b = if l = 0 then a else if l = 1 then a + 4 else a * 16 + b + 20 := if_pos h
  rw [e]
  rcases h with ⟨rfl, h1, h2, rfl⟩ | ⟨rfl, h1, h2, rfl⟩ | ⟨rfl, h1, h2, h3, h4⟩
  · rw [if_pos rfl]
    unfold wl wa wb we
    exact ⟨h1, by omega, by split <;> first | omega | (split <;> omega), by split <;> first | omega | (split <;> omega), by split <;> omega, by split <;> omega⟩
  · rw [if_neg (by omega), if_pos rfl]
    unfold wl wa wb we
    refine ⟨by omega, by omega, ?_, ?_, ?_, ?_⟩
    · rw [if_neg (by omega), if_neg (by omega), if_pos (by omega)]
    · rw [if_neg (by omega), if_neg (by omega), if_pos (by omega)]; omega
    · rw [if_pos (by omega)]
    · rw [if_neg (by omega)]
  · rw [if_neg (by omega), if_neg (by omega)]
    unfold wl wa wb we
    refine ⟨by omega, by omega, ?_, ?_, ?_, ?_⟩
    · rw [if_neg (by omega), if_neg (by omega), if_neg (by omega)]
    · rw [if_neg (by omega), if_neg (by omega), if_neg (by omega)]; omega
    · rw [if_neg (by omega)]; omega
    · rw [if_neg (by omega)]

theorem ways (k : Int) (h0 : 0 ≤ k) (h1 : k < 276) : (k < 4 ∧ wl k = 0 ∧ wa k = k ∧ wb k = 0) ∨ (4 ≤ k ∧ k < 20 ∧ wl k = 1 ∧ wa k = k - 4 ∧ wb k = 0) ∨ (20 ≤ k ∧ wl k = 2 ∧ wa k = (k - 20) / 16 ∧ wb k = (k - 20) % 16) := by
  unfold wl wa wb
  rcases Int.lt_or_le k 4 with h | h
  · exact .inl ⟨h, by rw [if_neg (by omega), if_pos h], by rw [if_neg (by omega), if_pos h], by rw [if_pos (by omega)]⟩
  · rcases Int.lt_or_le k 20 with h2 | h2
    · exact .inr (.inl ⟨h, h2, by rw [if_neg (by omega), if_neg (by omega), if_pos h2], by rw [if_neg (by omega), if_neg (by omega), if_pos h2], by rw [if_pos (by omega)]⟩)
    · exact .inr (.inr ⟨h2, by rw [if_neg (by omega), if_neg (by omega), if_neg (by omega)], by rw [if_neg (by omega), if_neg (by omega), if_neg (by omega)], by rw [if_neg (by omega)]⟩)

theorem we_ok (k : Int) (h0 : 0 ≤ k) (h1 : k < 276) : we k = 0 := if_neg (by omega)

theorem leads_way (k : Int) (h0 : 0 ≤ k) (h1 : k < 276) : leads (wl k) (wa k) (wb k) := by
  unfold leads
  rcases ways k h0 h1 with ⟨h, e1, e2, e3⟩ | ⟨h, h', e1, e2, e3⟩ | ⟨h, e1, e2, e3⟩ <;> rw [e1, e2, e3] <;> omega

theorem bk_way (k : Int) (h0 : 0 ≤ k) (h1 : k < 276) : bk (wl k) (wa k) (wb k) = k ∧ be (wl k) (wa k) (wb k) = 0 := by
  have hl := leads_way k h0 h1
  refine ⟨?_, if_pos hl⟩
  unfold bk
  rw [if_pos hl]
  rcases ways k h0 h1 with ⟨h, e1, e2, e3⟩ | ⟨h, h', e1, e2, e3⟩ | ⟨h, e1, e2, e3⟩ <;> rw [e1, e2, e3]
  · rw [if_pos rfl]
  · rw [if_neg (by omega), if_pos rfl]; omega
  · rw [if_neg (by omega), if_neg (by omega)]; omega
end Bm
end Go.Proofs.Ytkjkmdhbodjeeaa
