/-
  OWN WORK. A law's node, and its bytes with their reach, out of its arguments.
-/
import Derived.Test.YtpblhdpnmnfieaaBaFrame
import Derived.Test.YtpblhdpnmnfieaaNoPure
import Derived.SizedLaws
namespace Go.Proofs.Ytpblhdpnmnfieaa
open Go.ChangeShapes Go.WideShapes Go.RowKit Go.Deep

theorem Try.cellsNode : Try.prog.cellsOf 26 = 6 := by kernel_rfl
theorem Try.cellsInt : Try.prog.cellsOf 3 = 1 := by kernel_rfl
theorem Try.cellsU64 : Try.prog.cellsOf 22 = 1 := by kernel_rfl
theorem Try.cellsBool : Try.prog.cellsOf 4 = 1 := by kernel_rfl
theorem Try.byteSize : Try.prog.bytesOf 5 = 1 := by kernel_rfl
theorem node_of {H : Type} {enc : TypeId × Value → H} {W : World} {r : Reach} {b0 : Nat} {v : Value} {d : DataW H} {p : List MemPlace} (hval : Value.okWide Try.prog W r b0 26 v)
    (h : DataW.Trod enc Try.prog W 0 (fun _ => true) true 26 v d p) : ∃ n : Nd, n.Ok ∧ v = n.val := by
  have hv : ∃ cs, v = .agg cs ∧ cs.size = Try.prog.cellsOf 26 ∧ Row.okWide Try.prog W r b0 26 cs := by
    have h1 := hval
    unfold Value.okWide at h1
    rw [Try.underlying26] at h1
    exact h1
  obtain ⟨⟨cs⟩, rfl, hsz, _⟩ := hv
  obtain ⟨fuel, hf⟩ := h
  have hf2 : DataW.trod enc Try.prog W 0 (fun _ => true) true fuel 26 cs = some (d, p) := by simpa [Value.cells] using hf
  rw [Try.cellsNode] at hsz
  obtain ⟨ys, n', _, _, _, hyl, hfl⟩ := DataW.trod_struct Try.underlying26 hf2
  match cs, hsz, ys, hyl with
  | [v0, v1, v2, v3, v4, v5], _, [y0, y1, y2, y3, y4, y5], _ =>
    have h0 : DataW.trod enc Try.prog W 0 (fun _ => true) true n' 3 ((List.drop 0 [v0, v1, v2, v3, v4, v5]).take (Try.prog.cellsOf 3)) = some y0 := hfl 0 _ rfl
    rw [Try.cellsInt] at h0
    have h1 : DataW.trod enc Try.prog W 0 (fun _ => true) true n' 3 ((List.drop 1 [v0, v1, v2, v3, v4, v5]).take (Try.prog.cellsOf 3)) = some y1 := hfl 1 _ rfl
    rw [Try.cellsInt] at h1
    have h2 : DataW.trod enc Try.prog W 0 (fun _ => true) true n' 3 ((List.drop 2 [v0, v1, v2, v3, v4, v5]).take (Try.prog.cellsOf 3)) = some y2 := hfl 2 _ rfl
    rw [Try.cellsInt] at h2
    have h3 : DataW.trod enc Try.prog W 0 (fun _ => true) true n' 3 ((List.drop 3 [v0, v1, v2, v3, v4, v5]).take (Try.prog.cellsOf 3)) = some y3 := hfl 3 _ rfl
    rw [Try.cellsInt] at h3
    have h4 : DataW.trod enc Try.prog W 0 (fun _ => true) true n' 22 ((List.drop 4 [v0, v1, v2, v3, v4, v5]).take (Try.prog.cellsOf 22)) = some y4 := hfl 4 _ rfl
    rw [Try.cellsU64] at h4
    have h5 : DataW.trod enc Try.prog W 0 (fun _ => true) true n' 4 ((List.drop 5 [v0, v1, v2, v3, v4, v5]).take (Try.prog.cellsOf 4)) = some y5 := hfl 5 _ rfl
    rw [Try.cellsBool] at h5
    obtain ⟨k0, e0, _, w0⟩ := DataW.trod_int (cs := [v0]) Try.underlying3 h0
    obtain ⟨k1, e1, _, w1⟩ := DataW.trod_int (cs := [v1]) Try.underlying3 h1
    obtain ⟨k2, e2, _, w2⟩ := DataW.trod_int (cs := [v2]) Try.underlying3 h2
    obtain ⟨k3, e3, _, w3⟩ := DataW.trod_int (cs := [v3]) Try.underlying3 h3
    obtain ⟨k4, e4, _, w4⟩ := DataW.trod_int (cs := [v4]) Try.underlying22 h4
    obtain ⟨k5, e5, _⟩ := DataW.trod_bool (cs := [v5]) Try.underlying4 h5
    simp only [List.cons.injEq, and_true] at e0 e1 e2 e3 e4 e5
    subst e0 e1 e2 e3 e4 e5
    have b4 := bounds_u64 w4
    refine ⟨⟨k0, k1, k2, k3, k4.toNat, k5⟩, ⟨bounds_i64 w0, bounds_i64 w1, bounds_i64 w2, bounds_i64 w3, by show k4.toNat ≤ _; omega⟩, ?_⟩
    show Value.agg _ = Value.agg #[.int .i64 k0, .int .i64 k1, .int .i64 k2, .int .i64 k3, .int .u64 ((k4.toNat : Nat) : Int), .bool k5]
    rw [Int.toNat_of_nonneg b4.1]
/-- What a row of bytes weighs. -/
theorem bytes_weight {H : Type} {enc : TypeId × Value → H} {W : World} {fuel : Nat} {A : Option Addr} {k c : Nat} {y : DataW H × List MemPlace}
    (h : DataW.trod enc Try.prog W 0 (fun _ => true) true fuel 60 [.slice A k c] = some y) (hw : ∀ n ∈ y.1.weights Try.prog 60, n ≤ reachBytes) : k ≤ reachBytes := by
  rcases open_slice1 Try.underlying60 Try.cellsU8 h with ⟨hcs, _⟩ | ⟨a, len, cap, m, n, V, D, Pl, hcs, _, hl, hm, hmm, rfl, hi⟩
  · simp only [List.cons.injEq, and_true, Value.slice.injEq] at hcs
    omega
  · simp only [List.cons.injEq, and_true, Value.slice.injEq] at hcs
    have h1 := hw _ (by simp only [DataW.weights, Try.underlying60]; exact List.mem_cons_self)
    rw [Try.byteSize, List.length_map, List.length_range] at h1
    omega
theorem bytes_sized {H : Type} {enc : TypeId × Value → H} {W : World} {fuel : Nat} {v : Value} {x : DataW H × List MemPlace}
    (h : DataW.trod enc Try.prog W 0 (fun _ => true) true fuel 60 [v] = some x) :
    ∃ (l : List UInt8) (A : Option Addr) (cap : Nat), v = .slice A l.length cap ∧ l.length ≤ cap ∧ l.length ≤ 9223372036854775807 ∧ Rd W A l ∧ ((∀ n ∈ x.1.weights Try.prog 60, n ≤ reachBytes) → l.length ≤ 140737488351232) := by
  obtain ⟨l, A, cap, rfl, h1, h2, h3⟩ := bytes_of h
  exact ⟨l, A, cap, rfl, h1, h2, h3, fun hw => bytes_weight h hw⟩
end Go.Proofs.Ytpblhdpnmnfieaa
