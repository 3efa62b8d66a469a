/-
  OWN WORK. Rows of rows out of a law's arguments; the table of SHA-256 as it is laid.
-/
import Derived.Test.YtjeclmbableacaaDoorBaFrame
import Derived.Test.YtjeclmbableacaaDoorMkRows
import Derived.Test.YtjeclmbableacaaDoorShMix
namespace Go.Proofs.YtjeclmbableacaaDoor
open Go.ChangeShapes Go.WideShapes Go.RowKit Go.Deep Sh

theorem Tryd.kname : Tryd.prog.globalNamed "permafrost/sha.roundWords" = some 0 := by kernel_rfl

theorem Tryd.ktype : (Tryd.prog.globals[0]?).map (·.type) = some 60 := by kernel_rfl

theorem Tryd.cellsU32 : Tryd.prog.cellsOf 58 = 1 := by kernel_rfl

def laidK : List (String × DataW Unit) := [("permafrost/sha.roundWords", Rows.laid_permafrost_sha_roundWords)]

theorem laid_is : (Rows.laid_permafrost_sha_roundWords : DataW Unit) = .agg (roundK.map fun n => .lit (.int .u32 n)) := by rfl

theorem kat_of_laid {W : World} (h : laidMetH Tryd.prog [("permafrost/sha.roundWords", Rows.laid_permafrost_sha_roundWords)] W) : KAt W := by
  have h' : laidMet Tryd.prog [("permafrost/sha.roundWords", Rows.laid_permafrost_sha_roundWords)] W := h
  obtain ⟨ps, ⟨g, t, cs, fuel, p, q, e1, e2, e3, e4, _, _⟩, _⟩ := h'
  obtain rfl := Option.some.inj (Tryd.kname.symm.trans e1)
  obtain rfl := Option.some.inj (Tryd.ktype.symm.trans e2)
  obtain ⟨xs, m, _, hx, hcl, hxl, hi⟩ := DataW.trod_array Tryd.underlying60 e4
  simp only [Prod.mk.injEq] at hx
  rw [laid_is] at hx
  have hx1 : roundK.map (fun n => (DataW.lit (.int .u32 n) : DataW Unit)) = xs.map (·.1) := by
    have := hx.1
    injection this
  intro i hlt
  have h1 := hi i hlt
  rw [Tryd.cellsU32, Nat.mul_one] at h1
  have hxi : xs[i]? = some (xs[i]'(by omega)) := List.getElem?_eq_getElem _
  rw [hxi] at h1
  obtain ⟨n, hn1, hn2, _⟩ := DataW.trod_int Tryd.underlying58 h1
  have hk : (roundK.map (fun n => (DataW.lit (.int .u32 n) : DataW Unit)))[i]? = (xs.map (·.1))[i]? := by rw [hx1]
  rw [List.getElem?_map, List.getElem?_map, hxi, hn2] at hk
  have hlen : roundK.length = 64 := rfl
  have hr : roundK[i]? = some (roundK[i]'(by omega)) := List.getElem?_eq_getElem _
  rw [hr] at hk
  simp only [Option.map_some, Option.some.injEq, DataW.lit.injEq, Lit.int.injEq, true_and] at hk
  rw [World.var?_cell e1 e3 i]
  have h2 : (cs.toList.drop i)[0]? = some (.int .u32 n) := by
    have : ((cs.toList.drop i).take 1)[0]? = some (.int .u32 n) := by rw [hn1]; rfl
    rwa [List.getElem?_take_of_lt (by omega)] at this
  simp only [List.getElem?_drop, Nat.add_zero, Array.getElem?_toList] at h2
  rw [h2, ← hk]
  simp [List.getD, hr]

noncomputable def laidWorld (os : Os) : World :=
  let w0 := World.holding Tryd.prog os ⟨#[], #[], []⟩
  { w0 with heap := w0.heap.modify 0 fun
      | .cells _ t frozen => .cells (words32 roundK).toArray t frozen
      | o => o }

theorem laidWorld_met (os : Os) (args : Array Value) : laidMetH Tryd.prog [("permafrost/sha.roundWords", Rows.laid_permafrost_sha_roundWords)] ((laidWorld os).forCall (fun _ _ => 0) ⟨#[], args, []⟩).memory :=
  laidMet_of_run' 8 (by kernel_rfl) (by kernel_rfl)

theorem Tryd.cellsRow : Tryd.prog.cellsOf 23 = 1 := by kernel_rfl
theorem rows_of {H : Type} {enc : TypeId × Value → H} {W : World} {fuel : Nat} {v : Value} {x : DataW H × List MemPlace}
    (h : DataW.trod enc Tryd.prog W 0 (fun _ => true) true fuel 22 [v] = some x) :
    ∃ (L : List (List UInt8)) (A : Option Addr) (cap : Nat), v = .slice A L.length cap ∧ L.length ≤ cap ∧ L.length ≤ 9223372036854775807 ∧ RdL W A L ∧ ∀ y, y ∈ L → y.length ≤ 9223372036854775807 := by
  rcases open_slice Tryd.underlying22 h with ⟨hcs, _⟩ | ⟨a, len, cap, m, n, D, Pl, hcs, _, hl, hm, hmm, hx, hi⟩
  · simp only [List.cons.injEq, and_true] at hcs
    exact ⟨[], none, 0, hcs, by simp, by simp, RdL.nil _ _, fun y hy => by simp at hy⟩
  · simp only [List.cons.injEq, and_true] at hcs
    subst hcs
    simp only [if_true] at hmm
    have key : ∀ i : Fin len, ∃ y : List UInt8, (∃ A' c, W.cell? (a.add i) = some (.slice A' y.length c) ∧ y.length ≤ c ∧ Rd W A' y) ∧ y.length ≤ 9223372036854775807 := fun i => by
      obtain ⟨cs, hc, ht⟩ := hi i (by have := i.2; omega)
      rw [Tryd.cellsRow, Nat.mul_one] at hc
      obtain ⟨_, hlen, hat⟩ := World.cells?_some hc
      match cs, hlen with
      | [v0], _ =>
        obtain ⟨l, A, c, e2, hlc, hll, hr⟩ := bytes_of (v := v0) ht
        have a0 : W.cell? ((a.add i).add 0) = some v0 := hat 0 (by omega)
        rw [add_of_add, Nat.add_zero] at a0
        subst e2
        exact ⟨l, ⟨A, c, a0, hlc, hr⟩, hll⟩
    obtain ⟨f, hf⟩ := Classical.axiomOfChoice key
    refine ⟨List.ofFn f, some a, cap, by rw [List.length_ofFn], by rw [List.length_ofFn]; exact hl, by rw [List.length_ofFn]; exact max_le (Nat.le_trans hl hm), fun h0 => ?_, fun y hy => ?_⟩
    · rw [List.length_ofFn] at h0
      obtain ⟨A1, c1, hc1, _⟩ := (hf ⟨0, h0⟩).1
      have hspot := World.cell?_spot hc1
      obtain ⟨b, off, spot⟩ := a
      have hsp : spot = none := by simpa [Addr.add] using hspot
      subst hsp
      refine ⟨b, off, rfl, World.block_lt_of_cell? W _ hc1, fun j y hj => ?_⟩
      have hjl : j < len := by
        have := (List.getElem?_eq_some_iff.1 hj).1
        simpa using this
      have e : y = f ⟨j, hjl⟩ := by
        rw [List.getElem?_ofFn, dif_pos hjl] at hj
        exact (Option.some.inj hj).symm
      subst e
      obtain ⟨A', c', q1, q2, q3⟩ := (hf ⟨j, hjl⟩).1
      rw [add_plain] at q1
      exact ⟨A', c', q1, q2, q3⟩
    · obtain ⟨i, rfl⟩ := (List.mem_ofFn).1 hy
      exact (hf i).2
end Go.Proofs.YtjeclmbableacaaDoor
