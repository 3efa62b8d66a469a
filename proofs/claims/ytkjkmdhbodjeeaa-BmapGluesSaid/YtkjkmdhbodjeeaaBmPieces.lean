/-
  OWN WORK. Pieces are right, and together the whole; with one turned, more or less they are not.
-/
import Derived.Test.YtkjkmdhbodjeeaaBmGlueP
import Derived.Test.YtkjkmdhbodjeeaaBmCopy
namespace Go.Proofs.Ytkjkmdhbodjeeaa
open Go.RowKit Rc
namespace Bm
theorem pieces_fit (l : List UInt8) : ∀ (n k : Nat) (s : Int), k + n = nb l.length → (n ≠ 0 → s = (l.length : Int) - 128 * (k : Int)) → fit ((pieces l).drop k) s = true
  | 0, k, s, h, _ => by
    rw [List.drop_eq_nil_of_le (by rw [pieces_len]; omega)]
    rfl
  | n + 1, k, s, h, hs => by
    have hk : k < nb l.length := by omega
    have hlt := lt_nb.1 hk
    have hs := hs (by omega)
    have hp := piece_len l k
    rw [fit_at (pieces_at l k hk), decide_eq_true (by rw [hp, hs]; split <;> omega), Bool.true_and]
    refine pieces_fit l n (k + 1) _ (by omega) fun hn => ?_
    have : 128 * (k + 1) < l.length := lt_nb.1 (by omega)
    rw [hp, hs]
    omega
theorem pieces_holds (l : List UInt8) : holds (pieces l) (l.length : Int) = true := by
  have h := pieces_fit l (nb l.length) 0 (l.length : Int) (by omega) (fun _ => by omega)
  rw [List.drop_zero] at h
  unfold holds
  rw [decide_eq_true (by omega), decide_eq_true (by rw [pieces_len, bl_nb]), h]
  rfl
theorem pieces_take (l : List UInt8) : ∀ k, k ≤ nb l.length → ((pieces l).take k).flatten = l.take (128 * k)
  | 0, _ => by simp
  | k + 1, h => by
    rw [flat_take (pieces_at l k (by omega)), pieces_take l k (by omega), show 128 * (k + 1) = 128 * k + 128 by omega, List.take_add]
    rfl
theorem pieces_flat (l : List UInt8) : (pieces l).flatten = l := by
  have h := pieces_take l (nb l.length) (Nat.le_refl _)
  rw [← pieces_len, List.take_length] at h
  rw [h, pieces_len, List.take_of_length_le (by unfold nb; omega)]
theorem pieces_each {l : List UInt8} {j : Nat} {y : List UInt8} (h : (pieces l)[j]? = some y) : 1 ≤ y.length ∧ y.length ≤ 128 ∧ (j + 1 < (pieces l).length → y.length = 128) := by
  have hj : j < nb l.length := by have := (List.getElem?_eq_some_iff.1 h).1; rwa [pieces_len] at this
  rw [pieces_at l j hj] at h
  injection h with h
  have hlt := lt_nb.1 hj
  rw [← h, piece_len, pieces_len]
  refine ⟨by omega, by omega, fun h2 => ?_⟩
  have := lt_nb.1 h2
  omega
theorem holds_no {L : List (List UInt8)} {s : Int} (h : (L.length : Int) = bl s → (L.flatten.length : Int) = s → False) : holds L s = false := by
  cases e : holds L s with
  | false => rfl
  | true => exact (h (holds_sum e).2.1 (holds_sum e).2.2).elim
theorem no_more (l m : List UInt8) : holds (pieces l ++ [m]) (l.length : Int) = false := holds_no fun h _ => by
  rw [List.length_append, pieces_len, bl_nb] at h
  simp at h
  omega
theorem no_long (l : List UInt8) : holds (pieces l) ((l.length : Int) + 1) = false := holds_no fun _ h => by
  rw [pieces_flat] at h
  omega
theorem no_less (l : List UInt8) (k : Nat) (hk : k < (pieces l).length) : holds ((pieces l).take k ++ (pieces l).drop (k + 1)) (l.length : Int) = false := holds_no fun h _ => by
  rw [List.length_append, List.length_take, List.length_drop, bl_nb, ← pieces_len] at h
  omega
theorem no_short (l : List UInt8) (k : Nat) (y : List UInt8) (hy : (pieces l)[k]? = some y) : holds ((pieces l).set k (y.drop 1)) (l.length : Int) = false := holds_no fun _ h => by
  obtain ⟨hk, he⟩ := List.getElem?_eq_some_iff.1 hy
  have e1 : (pieces l).flatten.length = ((pieces l).take k).flatten.length + y.length + ((pieces l).drop (k + 1)).flatten.length := by
    conv => lhs; rw [← List.take_append_drop k (pieces l), List.drop_eq_getElem_cons hk, he]
    simp
    omega
  rw [List.set_eq_take_append_cons_drop, if_pos hk] at h
  rw [pieces_flat] at e1
  have := (pieces_each hy).1
  simp at h
  simp at e1
  omega
end Bm

/-- Glue of rows that do not fit. -/
theorem glue_no {wb w2 : World} {v : Value} {L : List (List UInt8)} {n : Int} {B : Nat} (h : OR wb B v L w2) (hb : Below wb.heap.size wb w2) (hL : L.length ≤ 1000000) (hn : n ≤ 1000000000) (hno : Bm.holds L n = false) :
    Calls Try.prog 20 #[v, .int .i64 n] w2 fun e w' => e = .returned (.tuple #[.slice none 0 0, .int .i64 12]) ∧ Below w2.heap.size w2 w' := by
  obtain ⟨A, c, rfl, hc, hr⟩ := h.rd hb
  refine (glue_any w2 A L c n hr hc hL hn).mono ?_
  rintro e w' ⟨h1, h2⟩
  rw [hno] at h2
  exact ⟨h2, h1⟩
theorem glue_not {w2 : World} {A : Option Addr} {c : Nat} {L : List (List UInt8)} {n : Int} (hr : RdL w2 A L) (hc : L.length ≤ c) (hL : L.length ≤ 1000000) (hn : n ≤ 1000000000) (hno : Bm.holds L n = false) :
    Calls Try.prog 20 #[.slice A L.length c, .int .i64 n] w2 fun e w' => e = .returned (.tuple #[.slice none 0 0, .int .i64 12]) ∧ Below w2.heap.size w2 w' := by
  refine (glue_any w2 A L c n hr hc hL hn).mono ?_
  rintro e w' ⟨h1, h2⟩
  rw [hno] at h2
  exact ⟨h2, h1⟩
theorem glue_yes {w2 : World} {A : Option Addr} {c : Nat} {L : List (List UInt8)} {b : List UInt8} (hr : RdL w2 A L) (hc : L.length ≤ c) (hL : L.length ≤ 1000000) (hn : b.length ≤ 1000000000) (h1 : Bm.holds L (b.length : Int) = true) (h2 : L.flatten = b) :
    Calls Try.prog 20 #[.slice A L.length c, .int .i64 (b.length : Nat)] w2 fun e w' => (∃ X k, e = .returned (.tuple #[.slice X b.length k, .int .i64 0]) ∧ b.length ≤ k ∧ Hid (Rd w' X b)) ∧ Below w2.heap.size w2 w' := by
  refine (glue_any w2 A L c _ hr hc hL (by omega)).mono ?_
  rintro e w' ⟨h3, h4⟩
  rw [if_pos h1, h2] at h4
  obtain ⟨X, k, h5, h6, h7⟩ := h4
  exact ⟨⟨X, k, h5, h6, h7⟩, h3⟩
end Go.Proofs.Ytkjkmdhbodjeeaa
