/-
  OWN WORK. Law 5's list of calls out of its arguments.
-/
import Derived.Test.YtenedgapjbmpgaaBaFrame
import Derived.Test.YtenedgapjbmpgaaDiArgs
import Derived.SizedLaws
namespace Go.Proofs.Ytenedgapjbmpgaa
open Go.ChangeShapes Go.WideShapes Go.RowKit Go.Deep

theorem Try.cellsAsk : Try.prog.cellsOf 33 = 6 := by kernel_rfl
theorem Try.cellsInt : Try.prog.cellsOf 3 = 1 := by kernel_rfl
theorem Try.cellsBytes : Try.prog.cellsOf 27 = 1 := by kernel_rfl
theorem Try.cellsBools : Try.prog.cellsOf 31 = 1 := by kernel_rfl
theorem Try.byteSize : Try.prog.bytesOf 5 = 1 := by kernel_rfl
/-- What a row of bytes weighs. -/
theorem bytes_weight {H : Type} {enc : TypeId × Value → H} {W : World} {fuel : Nat} {A : Option Addr} {k c : Nat} {y : DataW H × List MemPlace}
    (h : DataW.trod enc Try.prog W 0 (fun _ => true) true fuel 27 [.slice A k c] = some y) (hw : ∀ n ∈ y.1.weights Try.prog 27, n ≤ reachBytes) : k ≤ reachBytes := by
  rcases open_slice1 Try.underlying27 Try.cellsU8 h with ⟨hcs, _⟩ | ⟨a, len, cap, m, n, V, D, Pl, hcs, _, hl, hm, hmm, rfl, hi⟩
  · simp only [List.cons.injEq, and_true, Value.slice.injEq] at hcs
    omega
  · simp only [List.cons.injEq, and_true, Value.slice.injEq] at hcs
    have h1 := hw _ (by simp only [DataW.weights, Try.underlying27]; exact List.mem_cons_self)
    rw [Try.byteSize, List.length_map, List.length_range] at h1
    omega
theorem weights_all {H : Type} {P : Program} {e : TypeId} : ∀ {ds : List (DataW H)} {d : DataW H}, d ∈ ds → ∀ n ∈ d.weights P e, n ∈ DataW.weightsAll P e ds
  | d0 :: ds, d, hd, n, hn => by
    simp only [DataW.weightsAll, List.mem_append]
    rcases List.mem_cons.1 hd with rfl | hd
    · exact .inl hn
    · exact .inr (weights_all hd n hn)
theorem asks_sized {H : Type} {enc : TypeId × Value → H} {W : World} {fuel : Nat} {v : Value} {x : DataW H × List MemPlace}
    (h : DataW.trod enc Try.prog W 0 (fun _ => true) true fuel 34 [v] = some x) :
    ∃ (ps : List AskD) (A : Option Addr) (cap : Nat), v = .slice A ps.length cap ∧ ps.length ≤ cap ∧ ps.length ≤ 9223372036854775807 ∧ AsksIn W A ps ∧ ((∀ n ∈ x.1.weights Try.prog 34, n ≤ reachBytes) → ∀ p ∈ ps, p.x.length ≤ reachBytes) := by
  rcases open_slice Try.underlying34 h with ⟨hcs, _⟩ | ⟨a, len, cap, m, n, D, Pl, hcs, _, hl, hm, hmm, hx, hi⟩
  · simp only [List.cons.injEq, and_true] at hcs
    exact ⟨[], none, 0, hcs, by simp, by simp, fun h0 => absurd h0 (by simp), fun _ p hp => by simp at hp⟩
  · simp only [List.cons.injEq, and_true] at hcs
    subst hcs
    simp only [if_true] at hmm
    have key : ∀ i : Fin len, ∃ p : AskD, p.Ok W a i ∧ ((∀ n ∈ (D i).weights Try.prog 33, n ≤ reachBytes) → p.x.length ≤ reachBytes) := fun i => by
      obtain ⟨cs, hc, ht⟩ := hi i (by have := i.2; omega)
      rw [Try.cellsAsk] at hc
      obtain ⟨_, hlen, hat⟩ := World.cells?_some hc
      obtain ⟨ys, n', _, hys, _, hyl, hf⟩ := DataW.trod_struct Try.underlying33 ht
      match cs, hlen, ys, hyl with
      | [v0, v1, v2, v3, v4, v5], _, [y0, y1, y2, y3, y4, y5], _ =>
        have h0 : DataW.trod enc Try.prog W 0 (fun _ => true) true n' 3 ((List.drop 0 [v0, v1, v2, v3, v4, v5]).take (Try.prog.cellsOf 3)) = some y0 := hf 0 _ rfl
        rw [Try.cellsInt] at h0
        have h1 : DataW.trod enc Try.prog W 0 (fun _ => true) true n' 3 ((List.drop 1 [v0, v1, v2, v3, v4, v5]).take (Try.prog.cellsOf 3)) = some y1 := hf 1 _ rfl
        rw [Try.cellsInt] at h1
        have h2 : DataW.trod enc Try.prog W 0 (fun _ => true) true n' 27 ((List.drop 2 [v0, v1, v2, v3, v4, v5]).take (Try.prog.cellsOf 27)) = some y2 := hf 2 _ rfl
        rw [Try.cellsBytes] at h2
        have h3 : DataW.trod enc Try.prog W 0 (fun _ => true) true n' 31 ((List.drop 3 [v0, v1, v2, v3, v4, v5]).take (Try.prog.cellsOf 31)) = some y3 := hf 3 _ rfl
        rw [Try.cellsBools] at h3
        have h4 : DataW.trod enc Try.prog W 0 (fun _ => true) true n' 3 ((List.drop 4 [v0, v1, v2, v3, v4, v5]).take (Try.prog.cellsOf 3)) = some y4 := hf 4 _ rfl
        rw [Try.cellsInt] at h4
        have h5 : DataW.trod enc Try.prog W 0 (fun _ => true) true n' 3 ((List.drop 5 [v0, v1, v2, v3, v4, v5]).take (Try.prog.cellsOf 3)) = some y5 := hf 5 _ rfl
        rw [Try.cellsInt] at h5
        have a0 : W.cell? ((a.add (i * 6)).add 0) = some v0 := hat 0 (by omega)
        have a1 : W.cell? ((a.add (i * 6)).add 1) = some v1 := hat 1 (by omega)
        have a2 : W.cell? ((a.add (i * 6)).add 2) = some v2 := hat 2 (by omega)
        have a3 : W.cell? ((a.add (i * 6)).add 3) = some v3 := hat 3 (by omega)
        have a4 : W.cell? ((a.add (i * 6)).add 4) = some v4 := hat 4 (by omega)
        have a5 : W.cell? ((a.add (i * 6)).add 5) = some v5 := hat 5 (by omega)
        obtain ⟨k0, e0, _, w0⟩ := DataW.trod_int (cs := [v0]) Try.underlying3 h0
        obtain ⟨k1, e1, _, w1⟩ := DataW.trod_int (cs := [v1]) Try.underlying3 h1
        obtain ⟨l, A, c, e2, hlc, hll, hr⟩ := bytes_of (v := v2) h2
        obtain ⟨ks, KA, kc, e3, hkc, hkl, hkr⟩ := bools_of (v := v3) h3
        obtain ⟨k4, e4, _, w4⟩ := DataW.trod_int (cs := [v4]) Try.underlying3 h4
        obtain ⟨k5, e5, _, w5⟩ := DataW.trod_int (cs := [v5]) Try.underlying3 h5
        simp only [List.cons.injEq, and_true] at e0 e1 e4 e5
        subst e0 e1 e2 e3 e4 e5
        have lt : a.block < W.heap.size := by
          rcases Nat.lt_or_ge ((a.add (i * 6)).add 0).block W.heap.size with h | h
          · rwa [block_of_add, block_of_add] at h
          · simp [World.cell?, Array.getElem?_eq_none h] at a0
        refine ⟨⟨k0, k1, A, l, c, KA, ks, kc, k4, k5⟩, ⟨fun k hk => ?_, hr, hlc, hll, hkr, hkc, hkl, bounds_i64 w1, bounds_i64 w4, bounds_i64 w5, lt⟩, fun hwt => bytes_weight h2 fun n hn => hwt n ?_⟩
        · rw [← add_of_add]
          match k, hk with
          | 0, _ => exact a0
          | 1, _ => exact a1
          | 2, _ => exact a2
          | 3, _ => exact a3
          | 4, _ => exact a4
          | 5, _ => exact a5
        · have e : D i = .agg [y0.1, y1.1, y2.1, y3.1, y4.1, y5.1] := congrArg Prod.fst hys
          rw [e]
          simp only [DataW.weights, Try.underlying33]
          exact DataW.weights_mem_each (j := 2) (t := 27) (d := y2.1) rfl rfl n hn
    obtain ⟨f, hf⟩ := Classical.axiomOfChoice key
    refine ⟨List.ofFn f, some a, cap, by rw [List.length_ofFn], by rw [List.length_ofFn]; exact hl, by rw [List.length_ofFn]; exact max_le (Nat.le_trans hl hm), fun _ => ⟨a, rfl, fun i p hp => ?_⟩, fun hwt p hp => ?_⟩
    · have hjl : i < len := by
        have := (List.getElem?_eq_some_iff.1 hp).1
        simpa using this
      have e : p = f ⟨i, hjl⟩ := by
        rw [List.getElem?_ofFn, dif_pos hjl] at hp
        exact (Option.some.inj hp).symm
      subst e
      exact (hf ⟨i, hjl⟩).1
    · obtain ⟨i, rfl⟩ := (List.mem_ofFn).1 hp
      refine (hf i).2 fun n hn => hwt n ?_
      rw [hx]
      simp only [DataW.weights, Try.underlying34]
      have hm : D i ∈ (List.range len).map D := List.mem_map.2 ⟨i.1, List.mem_range.2 i.2, rfl⟩
      exact List.mem_cons_of_mem _ (List.mem_append.2 (.inl (weights_all hm n hn)))
theorem asks_of {H : Type} {enc : TypeId × Value → H} {W : World} {fuel : Nat} {v : Value} {x : DataW H × List MemPlace}
    (h : DataW.trod enc Try.prog W 0 (fun _ => true) true fuel 34 [v] = some x) :
    ∃ (ps : List AskD) (A : Option Addr) (cap : Nat), v = .slice A ps.length cap ∧ ps.length ≤ cap ∧ ps.length ≤ 9223372036854775807 ∧ AsksIn W A ps := by
  obtain ⟨ps, A, cap, h1, h2, h3, h4, _⟩ := asks_sized h
  exact ⟨ps, A, cap, h1, h2, h3, h4⟩
end Go.Proofs.Ytenedgapjbmpgaa
