/-
  OWN WORK. A law's texts out of its slices, as they are read; how much they are together.
-/
import Derived.Test.YtmdffakhejdkoaaBaFrame
import Derived.Test.YtmdffakhejdkoaaPaKnown
import Derived.SliceStrings
namespace Go.Proofs.Ytmdffakhejdkoaa
open Go.ChangeShapes Go.WideShapes Go.RowKit Go.Deep

theorem Try.cellsStr : Try.prog.cellsOf 9 = 1 := by kernel_rfl
theorem joined_cons (x : Bs) (l : List Bs) : (joined (x :: l)).length = x.length + 1 + (joined l).length := by
  unfold joined
  rw [List.flatMap_cons, List.length_append, List.length_cons]
theorem bulk_strs {H : Type} (ss : List ByteArray) : Rows.uptoBulkAll (H := H) (strs ss) = (joined (ss.map fun s => s.data.toList)).length := by
  induction ss with
  | nil => rfl
  | cons s r ih =>
    rw [List.map_cons, joined_cons, ← ih]
    simp [strs, Rows.uptoBulkAll, Rows.uptoBulk]
theorem strs_of {H : Type} {enc : TypeId × Value → H} {W : World} {fuel : Nat} {v : Value} {x : DataW H × List MemPlace}
    (h : DataW.trod enc Try.prog W 0 (fun _ => true) true fuel 22 [v] = some x) :
    ∃ (l : List Bs) (A : Option Addr) (cap : Nat), v = .slice A l.length cap ∧ l.length ≤ cap ∧ l.length ≤ 9223372036854775807 ∧ RdS W A l ∧ (∀ s ∈ l, s.length ≤ 9223372036854775807) ∧ (joined l).length ≤ Rows.uptoBulk x.1 := by
  rcases open_strings Try.underlying22 Try.underlying9 Try.cellsStr h with ⟨hcs, rfl⟩ | ⟨a, len, cap, ss, hcs, _, hl, hm, hss, rfl, hi, hsz⟩
  · simp only [List.cons.injEq, and_true] at hcs
    exact ⟨[], none, 0, hcs, by simp, by simp, RdS.nil _ _, (fun s hs => by cases hs), by simp [joined]⟩
  · simp only [List.cons.injEq, and_true] at hcs
    subst hcs
    simp only [if_true] at hss
    have hlen : ((ss.take len).map fun s => s.data.toList).length = len := by rw [List.length_map, List.length_take]; omega
    refine ⟨(ss.take len).map fun s => s.data.toList, some a, cap, by rw [hlen], by rw [hlen]; exact hl, by rw [hlen]; exact max_le (Nat.le_trans hl hm), fun hp => ?_, fun s hs => ?_, ?_⟩
    · rw [hlen] at hp
      have h0 := hi 0 (by omega)
      have hpl : ∃ b off, a = ⟨b, off, none⟩ := by
        have hs := World.cell?_spot h0
        obtain ⟨b, off, spot⟩ := a
        have : spot = none := by simpa [Addr.add] using hs
        exact ⟨b, off, by rw [this]⟩
      obtain ⟨b, off, rfl⟩ := hpl
      refine ⟨b, off, rfl, ?_, fun j y hj => ?_⟩
      · rcases Nat.lt_or_ge b W.heap.size with hlt | hge
        · exact hlt
        · simp [World.cell?, Addr.add, Array.getElem?_eq_none hge] at h0
      · have hjl : j < len := by have := (List.getElem?_eq_some_iff.1 hj).1; rw [hlen] at this; exact this
        have hc := hi j (by omega)
        rw [add_plain] at hc
        rw [hc]
        rw [List.getElem?_map, List.getElem?_take_of_lt hjl, Option.map_eq_some_iff] at hj
        obtain ⟨s, hs, rfl⟩ := hj
        rw [List.getD_eq_getElem?_getD, hs]
        rfl
    · obtain ⟨s0, hs0, rfl⟩ := List.mem_map.1 hs
      have := hsz s0 (List.mem_of_mem_take hs0)
      rw [Array.length_toList]
      exact max_le this
    · rw [← bulk_strs (H := H)]
      simp only [Rows.uptoBulk]
      omega
end Go.Proofs.Ytmdffakhejdkoaa
