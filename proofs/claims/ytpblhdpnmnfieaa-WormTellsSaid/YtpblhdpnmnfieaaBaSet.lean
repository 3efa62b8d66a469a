/-
  OWN WORK. Rows of a call's own that are written place by place.
-/
import Derived.Test.YtpblhdpnmnfieaaBaRg
namespace Go.Proofs.Ytpblhdpnmnfieaa
open Go.RowKit

/-- A row of the call's own, written at one place. -/
theorem own_set {w : World} {base g c n : Nat} {l : List UInt8} (h : w.ownsRow base 5 1 (.slice (some ⟨g, 0, none⟩) n c) n (Lib.byteCells l)) (k : Nat) (_hk : k < n) (x : UInt8) (X : Int) (hX : X = x.toNat) :
    (w.setCell ⟨g, k, none⟩ (.int .u8 X)).ownsRow base 5 1 (.slice (some ⟨g, 0, none⟩) n c) n (Lib.byteCells (l.set k x)) := by
  subst hX
  refine ⟨by have := h.1; simpa [Lib.byteCells] using this, ?_⟩
  rcases h.2 with ⟨h1, _⟩ | ⟨g', cap, cur, h1, h2, h3, h4, h5, h6, h7⟩
  · cases h1
  · injection h1 with h1 h1b h1c
    injection h1 with h1
    injection h1 with h1
    subst h1
    refine .inr ⟨g, cap, cur.setIfInBounds k (.int .u8 x.toNat), by rw [h1c], h2, ?_, h4, h5, by simpa using h6, ?_⟩
    · simp [World.setCell, Array.getElem?_modify, h3]
    · rw [Array.toList_setIfInBounds, List.take_set, h7]
      simp [Lib.byteCells, List.map_set]
/-- .. and one that lies elsewhere. -/
theorem own_far {w : World} {base n : Nat} {v : Value} {xs : List Value} (h : w.ownsRow base 5 1 v n xs) (p : Addr) (hne : v.ownBlock ≠ some p.block) (u : Value) : (w.setCell p u).ownsRow base 5 1 v n xs := by
  refine ⟨h.1, ?_⟩
  rcases h.2 with h2 | ⟨g, cap, cur, h3, h4, h5, h6⟩
  · exact .inl h2
  · subst h3
    refine .inr ⟨g, cap, cur, rfl, h4, ?_, h6⟩
    rw [Below.heap_setCell w p u g (fun e => hne (by rw [← e]; rfl))]
    exact h5
theorem own_frozen {w : World} {base g c n : Nat} {xs : List Value} (h : w.ownsRow base 5 1 (.slice (some ⟨g, 0, none⟩) n c) n xs) (k : Nat) : w.frozen? ⟨g, k, none⟩ = false := by
  rcases h.2 with ⟨h1, _⟩ | ⟨g', cap, cur, h1, h2, h3, _⟩
  · cases h1
  · injection h1 with h1
    injection h1 with h1
    injection h1 with h1
    subst h1
    simp [World.frozen?, h3]
theorem own_addr {w : World} {base n c : Nat} {X : Option Addr} {xs : List Value} (h : w.ownsRow base 5 1 (.slice X n c) n xs) (hn : 0 < n) : ∃ g, X = some ⟨g, 0, none⟩ := by
  rcases h.2 with ⟨_, h0⟩ | ⟨g, cap, cur, h1, _⟩
  · omega
  · injection h1 with h1
    exact ⟨g, h1⟩
/-- A byte of it. -/
theorem own_byte {w : World} {base g c n : Nat} {l : List UInt8} (h : w.ownsRow base 5 1 (.slice (some ⟨g, 0, none⟩) n c) n (Lib.byteCells l)) (k : Nat) (hk : k < n) : w.cell? ⟨g, k, none⟩ = some (.int .u8 (l.getD k 0).toNat) := by
  obtain ⟨g', c', e, _, _, _, hlen, hr⟩ := rd_own h (by omega)
  injection e with e
  injection e with e
  injection e with e
  subst e
  obtain ⟨b, off, e, _, hc⟩ := hr.at_ (by omega)
  injection e with e
  injection e with e1 e2
  subst e1 e2
  have := hc k (by omega)
  rwa [Nat.zero_add] at this
theorem Rd.byte {w : World} {b off : Nat} {l : List UInt8} (h : Rd w (some ⟨b, off, none⟩) l) (j : Nat) (hj : j < l.length) : w.cell? ⟨b, off + j, none⟩ = some (.int .u8 (l.getD j 0).toNat) := by
  obtain ⟨b', off', e, _, hc⟩ := h.at_ (by omega)
  injection e with e
  injection e with e1 e2
  subst e1 e2
  exact hc j hj
/-- A row of noughts that is filled from its beginning. -/
theorem fill_set (L : List UInt8) (k : Nat) (h : k < L.length) : (L.take k ++ List.replicate (L.length - k) 0).set k (L.getD k 0) = L.take (k + 1) ++ List.replicate (L.length - (k + 1)) 0 := by
  have hl : (L.take k).length = k := by rw [List.length_take]; omega
  rw [List.set_append_right _ _ (by omega), hl, Nat.sub_self]
  have e1 : List.replicate (L.length - k) (0 : UInt8) = 0 :: List.replicate (L.length - (k + 1)) 0 := by
    rw [show L.length - k = (L.length - (k + 1)) + 1 by omega]; rfl
  rw [e1, List.set_cons_zero, List.take_succ_eq_append_getElem h, List.append_assoc]
  simp [List.getD, List.getElem?_eq_getElem h]
theorem Later.setCell {w0 w : World} (h : Later w0 w) (p : Addr) (hp : w0.heap.size ≤ p.block) (u : Value) : Later w0 (w.setCell p u) := Below.setCell h hp u
end Go.Proofs.Ytpblhdpnmnfieaa
