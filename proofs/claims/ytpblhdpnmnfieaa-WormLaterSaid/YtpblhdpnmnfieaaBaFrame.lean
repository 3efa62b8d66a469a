/-
  OWN WORK. A law's bytes and numbers out of its slices, as they are read.
-/
import Derived.Test.YtpblhdpnmnfieaaRows
import Derived.Test.YtpblhdpnmnfieaaBaRow
import Derived.ChangeSame
import Derived.ChangeVars
import Derived.JoinedOf
import Derived.RowKit
import Derived.RowKitTokens
import Derived.LaidLaws
import Derived.Deep.Slices
import Derived.ProofKit
import Derived.Carry
import Derived.OpenShut
namespace Go.Proofs.Ytpblhdpnmnfieaa
open Go.ChangeShapes Go.WideShapes Go.RowKit Go.Deep

theorem Try.own : ownKnob Try.prog.godebug = none := by kernel_rfl

theorem Try.laidOut : laidOutB Try.prog = true := by kernel_rfl

theorem Try.cellsU8 : Try.prog.cellsOf 5 = 1 := by kernel_rfl

/-- A slice of numbers, read as data, as it lies in memory. -/
theorem nums_of {H : Type} {enc : TypeId × Value → H} {W : World} {fuel : Nat} {v : Value} {x : DataW H × List MemPlace} {t e : TypeId} {k : IntKind} (ht : Try.prog.underlying t = some (.slice e)) (he : Try.prog.underlying e = some (.int k)) (hc : Try.prog.cellsOf e = 1)
    (h : DataW.trod enc Try.prog W 0 (fun _ => true) true fuel t [v] = some x) :
    ∃ (ns : List Int) (A : Option Addr) (cap : Nat), v = .slice A ns.length cap ∧ ns.length ≤ cap ∧ cap ≤ maxLen ∧ ∀ (j : Nat) (n : Int), ns[j]? = some n → (Lit.int k n).wf = true ∧ ∃ b off, A = some ⟨b, off, none⟩ ∧ b < W.heap.size ∧ W.cell? ⟨b, off + j, none⟩ = some (.int k n) := by
  rcases open_slice1 ht hc h with ⟨hcs, _⟩ | ⟨a, len, cap, m, n, V, D, Pl, hcs, _, hl, hm, hmm, _, hi⟩
  · simp only [List.cons.injEq, and_true] at hcs
    exact ⟨[], none, 0, hcs, by simp, by simp, fun j n hj => by simp at hj⟩
  · simp only [List.cons.injEq, and_true] at hcs
    subst hcs
    simp only [if_true] at hmm
    have key : ∀ i : Fin len, ∃ n : Int, W.cell? (a.add i) = some (.int k n) ∧ (Lit.int k n).wf = true := fun i => by
      obtain ⟨h1, h2⟩ := hi i (by have := i.2; omega)
      obtain ⟨n, h3, _, h4⟩ := DataW.trod_int he h2
      simp only [List.cons.injEq, and_true] at h3
      exact ⟨n, by rw [h1, h3], h4⟩
    obtain ⟨f, hf⟩ := Classical.axiomOfChoice key
    refine ⟨List.ofFn f, some a, cap, by rw [List.length_ofFn], by rw [List.length_ofFn]; exact hl, hm, fun j n hj => ?_⟩
    have hjl : j < len := by
      have := (List.getElem?_eq_some_iff.1 hj).1
      simpa using this
    have e : n = f ⟨j, hjl⟩ := by
      rw [List.getElem?_ofFn, dif_pos hjl] at hj
      exact (Option.some.inj hj).symm
    subst e
    have hp : ∃ b off, a = ⟨b, off, none⟩ := by
      have hs := World.cell?_spot (hf ⟨0, by omega⟩).1
      obtain ⟨b, off, spot⟩ := a
      have : spot = none := by
        simpa [Addr.add] using hs
      exact ⟨b, off, by rw [this]⟩
    obtain ⟨b, off, rfl⟩ := hp
    have g := hf ⟨j, hjl⟩
    simp only [add_plain] at g
    refine ⟨g.2, b, off, rfl, ?_, g.1⟩
    rcases Nat.lt_or_ge b W.heap.size with hlt | hge
    · exact hlt
    · have := g.1
      simp [World.cell?, Array.getElem?_eq_none hge] at this

theorem max_le {n : Nat} (h : n ≤ maxLen) : n ≤ 9223372036854775807 := by unfold maxLen at h; omega

theorem bytes_of {H : Type} {enc : TypeId × Value → H} {W : World} {fuel : Nat} {v : Value} {x : DataW H × List MemPlace}
    (h : DataW.trod enc Try.prog W 0 (fun _ => true) true fuel 60 [v] = some x) :
    ∃ (l : List UInt8) (A : Option Addr) (cap : Nat), v = .slice A l.length cap ∧ l.length ≤ cap ∧ l.length ≤ 9223372036854775807 ∧ Rd W A l := by
  obtain ⟨ns, A, cap, hv, hl, hm, hn⟩ := nums_of Try.underlying60 Try.underlying5 Try.cellsU8 h
  have hlen : (ns.map fun n => UInt8.ofNat n.toNat).length = ns.length := List.length_map _
  refine ⟨ns.map fun n => UInt8.ofNat n.toNat, A, cap, by rw [hlen]; exact hv, by rw [hlen]; exact hl, by rw [hlen]; exact max_le (Nat.le_trans hl hm), fun hp => ?_⟩
  rw [hlen] at hp
  obtain ⟨_, b, off, hA, hb, _⟩ := hn 0 _ (List.getElem?_eq_getElem hp)
  refine ⟨b, off, hA, hb, fun j y hj => ?_⟩
  rw [List.getElem?_map, Option.map_eq_some_iff] at hj
  obtain ⟨n, hj, rfl⟩ := hj
  obtain ⟨hw, b', off', hA', _, hc⟩ := hn j n hj
  rw [hA] at hA'
  injection hA' with hA'
  injection hA' with h1 h2
  subst h1 h2
  have hbd := bounds_u8 hw
  rw [hc]
  simp only [Option.some.injEq, Value.int.injEq, true_and]
  rw [UInt8.toNat_ofNat']
  omega
end Go.Proofs.Ytpblhdpnmnfieaa
