/-
  OWN WORK. A law's list of parts, and its list of flags, out of its arguments.
-/
import Derived.Test.YtpnnikifaalkoaaBaFrame
import Derived.Test.YtpnnikifaalkoaaCoArgs
namespace Go.Proofs.Ytpnnikifaalkoaa
open Go.ChangeShapes Go.WideShapes Go.RowKit Go.Deep

theorem Try.cellsPart : Try.prog.cellsOf 32 = 3 := by kernel_rfl
theorem Try.cellsInt : Try.prog.cellsOf 3 = 1 := by kernel_rfl
theorem Try.cellsU64 : Try.prog.cellsOf 30 = 1 := by kernel_rfl
theorem Try.cellsBytes : Try.prog.cellsOf 22 = 1 := by kernel_rfl
theorem below_size {W : World} {a : Addr} {v : Value} (h : W.cell? a = some v) : a.block < W.heap.size := by
  rcases Nat.lt_or_ge a.block W.heap.size with hlt | hge
  · exact hlt
  · simp [World.cell?, Array.getElem?_eq_none hge] at h

theorem parts_of {H : Type} {enc : TypeId × Value → H} {W : World} {fuel : Nat} {v : Value} {x : DataW H × List MemPlace}
    (h : DataW.trod enc Try.prog W 0 (fun _ => true) true fuel 38 [v] = some x) :
    ∃ (ps : List PartD) (A : Option Addr) (cap : Nat), v = .slice A ps.length cap ∧ ps.length ≤ cap ∧ ps.length ≤ 9223372036854775807 ∧ PartsIn W A ps := by
  rcases open_slice Try.underlying38 h with ⟨hcs, _⟩ | ⟨a, len, cap, m, n, D, Pl, hcs, _, hl, hm, hmm, _, hi⟩
  · simp only [List.cons.injEq, and_true] at hcs
    exact ⟨[], none, 0, hcs, by simp, by simp, fun h0 => absurd h0 (by simp)⟩
  · simp only [List.cons.injEq, and_true] at hcs
    subst hcs
    simp only [if_true] at hmm
    have key : ∀ i : Fin len, ∃ p : PartD, p.Ok W a i := fun i => by
      obtain ⟨cs, hc, ht⟩ := hi i (by have := i.2; omega)
      rw [Try.cellsPart] at hc
      obtain ⟨_, hlen, hat⟩ := World.cells?_some hc
      obtain ⟨ys, n', _, _, _, hyl, hf⟩ := DataW.trod_struct Try.underlying32 ht
      match cs, hlen, ys, hyl with
      | [v0, v1, v2], _, [y0, y1, y2], _ =>
        have h0 : DataW.trod enc Try.prog W 0 (fun _ => true) true n' 3 ((List.drop 0 [v0, v1, v2]).take (Try.prog.cellsOf 3)) = some y0 := hf 0 _ rfl
        rw [Try.cellsInt] at h0
        have h1 : DataW.trod enc Try.prog W 0 (fun _ => true) true n' 30 ((List.drop 1 [v0, v1, v2]).take (Try.prog.cellsOf 30)) = some y1 := hf 1 _ rfl
        rw [Try.cellsU64] at h1
        have h2 : DataW.trod enc Try.prog W 0 (fun _ => true) true n' 22 ((List.drop 2 [v0, v1, v2]).take (Try.prog.cellsOf 22)) = some y2 := hf 2 _ rfl
        rw [Try.cellsBytes] at h2
        have a0 : W.cell? ((a.add (i * 3)).add 0) = some v0 := hat 0 (by omega)
        have a1 : W.cell? ((a.add (i * 3)).add 1) = some v1 := hat 1 (by omega)
        have a2 : W.cell? ((a.add (i * 3)).add 2) = some v2 := hat 2 (by omega)
        obtain ⟨k0, e0, _, w0⟩ := DataW.trod_int (cs := [v0]) Try.underlying3 h0
        obtain ⟨k1, e1, _, w1⟩ := DataW.trod_int (cs := [v1]) Try.underlying30 h1
        obtain ⟨l, A, c, e2, hlc, hll, hr⟩ := bytes_of (v := v2) h2
        simp only [List.cons.injEq, and_true] at e0 e1
        subst e0 e1 e2
        have bd := bounds_u64 w1
        refine ⟨⟨k0, k1.toNat, A, l, c⟩, ?_, ?_, ?_, hr, hlc, hll, ?_, ?_⟩
        · rw [← a0, add_of_add, Nat.add_zero]
        · rw [← add_of_add, a1]
          show some (Value.int .u64 k1) = some (.int .u64 ((k1.toNat : Nat) : Int))
          rw [Int.toNat_of_nonneg bd.1]
        · rw [← add_of_add, a2]
        · show k1.toNat ≤ _
          omega
        · have := below_size a0
          rwa [block_of_add, block_of_add] at this
    obtain ⟨f, hf⟩ := Classical.axiomOfChoice key
    refine ⟨List.ofFn f, some a, cap, by rw [List.length_ofFn], by rw [List.length_ofFn]; exact hl, by rw [List.length_ofFn]; exact max_le (Nat.le_trans hl hm), fun _ => ⟨a, rfl, fun i p hp => ?_⟩⟩
    have hjl : i < len := by
      have := (List.getElem?_eq_some_iff.1 hp).1
      simpa using this
    have e : p = f ⟨i, hjl⟩ := by
      rw [List.getElem?_ofFn, dif_pos hjl] at hp
      exact (Option.some.inj hp).symm
    subst e
    exact hf ⟨i, hjl⟩
end Go.Proofs.Ytpnnikifaalkoaa
