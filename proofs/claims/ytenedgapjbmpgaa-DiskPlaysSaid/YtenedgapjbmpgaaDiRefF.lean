/-
  OWN WORK. The document's disk: Flush and Read, by their contracts.
-/
import Derived.Test.YtenedgapjbmpgaaDiRefW
import Derived.Test.YtenedgapjbmpgaaDiSafeP
namespace Go.Proofs.Ytenedgapjbmpgaa
open Go.RowKit Rc Di

def ReadOut (r : List UInt8 × Nat) (w : World) (e : Ending) (w' : World) : Prop := ∃ X c, e = .returned (.tuple #[.slice X r.1.length c, .int .i64 (r.2 : Nat)]) ∧ r.1.length ≤ c ∧ Rd w' X r.1 ∧ w = w'
set_option maxHeartbeats 2000000 in
set_option maxRecDepth 100000 in
theorem refRead_any {N : Nat} {v : Value} {st : Dk} {S : Nat → Prop} {w : World} (h : RefAt N v st S w) (i : Int) (hi0 : -9223372036854775808 ≤ i) (hi1 : i ≤ 9223372036854775807) :
    Calls Try.prog 31 #[v, .int .i64 i] w (ReadOut (st.read i) w) := by
  obtain ⟨g, gs, gn, gd, rfl, h1, h2, h3, h4, ⟨n1, n2, n3, n4, n5, n6⟩, hok, hS, hNN⟩ := h
  have HNN : Hid (gn = N) := hNN
  clear hNN
  have cd0 : w.cell? ⟨g, 2, none⟩ = some (.slice (some ⟨gd, 0, none⟩) st.dirty.length st.dirty.length) := h1.cell 2
  have cn0 : w.cell? ⟨g, 1, none⟩ = some (.slice (some ⟨gn, 0, none⟩) (128 * st.dirty.length) (128 * st.dirty.length)) := h1.cell 1
  obtain ⟨n, hn⟩ : ∃ n, n = st.dirty.length := ⟨_, rfl⟩
  have hn4 : n ≤ 4096 := by rw [hn]; exact hok.hi
  rw [← hn] at cd0 cn0
  by_cases hgood : st.has i
  · obtain ⟨k, rfl⟩ : ∃ k : Nat, i = (k : Int) := ⟨i.toNat, by have := hgood.1; omega⟩
    have hkn : k < n := by have := hgood.2; omega
    obtain ⟨r, hr⟩ : ∃ r, r = st.now.getD k [] := ⟨_, rfl⟩
    have hrd : st.read (k : Int) = (r, 0) := by rw [Dk.read_to st k (by omega), hr]
    have hkl : k < st.now.length := by rw [hok.now, ← hn]; exact hkn
    have hrl : r.length = 128 := by
      rw [hr, List.getD_eq_getElem?_getD, List.getElem?_eq_getElem hkl]
      exact hok.snow _ (List.getElem_mem hkl)
    have HRR : Hid (Rd w (some ⟨gn, k * 128, none⟩) r) := by
      have h5 := (rd_of_blk h3).cut (128 * k) (128 * n) (by rw [flat_length _ hok.snow, hok.now, ← hn]; exact Nat.le_refl _)
      have h6 := h5.take 128
      rw [flat_at _ k hok.snow hkl] at h6
      have e : st.now[k] = r := by rw [hr, List.getD_eq_getElem?_getD, List.getElem?_eq_getElem hkl]; rfl
      rw [e] at h6
      rw [if_neg (by omega)] at h6
      simp only [Option.map_some, add_plain, Nat.zero_add] at h6
      rw [Nat.mul_comm 128 k] at h6
      exact h6
    rw [hrd]
    have HRL := Lib.hid hrl
    clear h1 h2 h3 h4 hok hS n1 n2 n3 n4 n5 n6 hn hgood hr hrd hrl hkl
    go_enter Try.func31, Try.ntmps31
    go_wp2_with fail
    go_ret2
    have e3 : (k + 1) * 128 - k * 128 = r.length := by rw [HRL.out]; omega
    refine ⟨some ⟨gn, k * 128, none⟩, 128 * n - k * 128, ?_, by show r.length ≤ _; rw [HRL.out]; omega, HRR.out, rfl⟩
    show _ = Ending.returned (.tuple #[.slice _ r.length _, _])
    rw [← e3]; rfl
  · have hrd : st.read i = ([], 1) := by unfold Dk.read; rw [if_neg hgood]
    have hbad : i < 0 ∨ (n : Int) ≤ i := by
      rcases Int.lt_or_le i 0 with h | h
      · exact .inl h
      · rcases Int.lt_or_le i n with h2 | h2
        · exact absurd ⟨h, by rw [← hn]; exact h2⟩ hgood
        · exact .inr h2
    rw [hrd]
    clear h1 h2 h3 h4 hok hS n1 n2 n3 n4 n5 n6 hn hgood hrd
    go_enter Try.func31, Try.ntmps31
    by_cases b1 : i < 0
    · go_wp2_with fail
      go_ret2
      exact ⟨none, 0, rfl, Nat.le_refl _, Rd.nil _ _, rfl⟩
    · have b2 : (n : Int) ≤ i := hbad.resolve_left b1
      go_wp2_with fail
      go_ret2
      exact ⟨none, 0, rfl, Nat.le_refl _, Rd.nil _ _, rfl⟩
end Go.Proofs.Ytenedgapjbmpgaa
