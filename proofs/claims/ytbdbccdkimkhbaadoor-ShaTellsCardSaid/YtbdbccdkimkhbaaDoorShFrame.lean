/-
  OWN WORK. From the row's hypothesis to the table's cells; a world that meets it; a law's bytes and numbers out of its slices.
-/
import Derived.Test.YtbdbccdkimkhbaaDoorRows
import Derived.Test.YtbdbccdkimkhbaaDoorShCut
import Derived.ChangeSame
import Derived.ChangeVars
import Derived.JoinedOf
import Derived.RowKit
import Derived.RowKitTokens
import Derived.LaidLaws
import Derived.Deep.Slices
import Derived.ProofKit
import Derived.Carry
import Derived.OpenShut
namespace Go.Proofs.YtbdbccdkimkhbaaDoor
open Go.ChangeShapes Go.WideShapes Go.RowKit Go.Deep Sh

theorem Tryd.own : ownKnob Tryd.prog.godebug = none := by kernel_rfl
theorem Tryd.laidOut : laidOutB Tryd.prog = true := by kernel_rfl
theorem Tryd.kname : Tryd.prog.globalNamed "permafrost/sha.roundWords" = some 0 := by kernel_rfl
theorem Tryd.ktype : (Tryd.prog.globals[0]?).map (·.type) = some 43 := by kernel_rfl
theorem Tryd.cellsU32 : Tryd.prog.cellsOf 41 = 1 := by kernel_rfl
theorem Tryd.cellsU8 : Tryd.prog.cellsOf 5 = 1 := by kernel_rfl
theorem Tryd.cellsInt : Tryd.prog.cellsOf 3 = 1 := by kernel_rfl
def laidK : List (String × DataW Unit) := [("permafrost/sha.roundWords", Rows.laid_permafrost_sha_roundWords)]
theorem laid_is : (Rows.laid_permafrost_sha_roundWords : DataW Unit) = .agg (roundK.map fun n => .lit (.int .u32 n)) := by rfl

theorem kat_of_laid {W : World} (h : laidMetH Tryd.prog [("permafrost/sha.roundWords", Rows.laid_permafrost_sha_roundWords)] W) : KAt W := by
  have h' : laidMet Tryd.prog [("permafrost/sha.roundWords", Rows.laid_permafrost_sha_roundWords)] W := h
  obtain ⟨ps, ⟨g, t, cs, fuel, p, q, e1, e2, e3, e4, _, _⟩, _⟩ := h'
  obtain rfl := Option.some.inj (Tryd.kname.symm.trans e1)
  obtain rfl := Option.some.inj (Tryd.ktype.symm.trans e2)
  obtain ⟨xs, m, _, hx, hcl, hxl, hi⟩ := DataW.trod_array Tryd.underlying43 e4
  simp only [Prod.mk.injEq] at hx
  rw [laid_is] at hx
  have hx1 : roundK.map (fun n => (DataW.lit (.int .u32 n) : DataW Unit)) = xs.map (·.1) := by
    have := hx.1
    injection this
  intro i hlt
  have h1 := hi i hlt
  rw [Tryd.cellsU32, Nat.mul_one] at h1
  have hxi : xs[i]? = some (xs[i]'(by omega)) := List.getElem?_eq_getElem _
  rw [hxi] at h1
  obtain ⟨n, hn1, hn2, _⟩ := DataW.trod_int Tryd.underlying41 h1
  have hk : (roundK.map (fun n => (DataW.lit (.int .u32 n) : DataW Unit)))[i]? = (xs.map (·.1))[i]? := by rw [hx1]
  rw [List.getElem?_map, List.getElem?_map, hxi, hn2] at hk
  have hlen : roundK.length = 64 := rfl
  have hr : roundK[i]? = some (roundK[i]'(by omega)) := List.getElem?_eq_getElem _
  rw [hr] at hk
  simp only [Option.map_some, Option.some.injEq, DataW.lit.injEq, Lit.int.injEq, true_and] at hk
  rw [World.var?_cell e1 e3 i]
  have h2 : (cs.toList.drop i)[0]? = some (.int .u32 n) := by
    have : ((cs.toList.drop i).take 1)[0]? = some (.int .u32 n) := by rw [hn1]; rfl
    rwa [List.getElem?_take_of_lt (by omega)] at this
  simp only [List.getElem?_drop, Nat.add_zero, Array.getElem?_toList] at h2
  rw [h2, ← hk]
  simp [List.getD, hr]

noncomputable def laidWorld (os : Os) : World :=
  let w0 := World.holding Tryd.prog os ⟨#[], #[], []⟩
  { w0 with heap := w0.heap.modify 0 fun
      | .cells _ t frozen => .cells (words32 roundK).toArray t frozen
      | o => o }
theorem laidWorld_met (os : Os) (args : Array Value) : laidMetH Tryd.prog [("permafrost/sha.roundWords", Rows.laid_permafrost_sha_roundWords)] ((laidWorld os).forCall (fun _ _ => 0) ⟨#[], args, []⟩).memory :=
  laidMet_of_run' 8 (by kernel_rfl) (by kernel_rfl)

/-- A slice of numbers, read as data, as it lies in memory. -/
theorem nums_of {H : Type} {enc : TypeId × Value → H} {W : World} {fuel : Nat} {v : Value} {x : DataW H × List MemPlace} {t e : TypeId} {k : IntKind} (ht : Tryd.prog.underlying t = some (.slice e)) (he : Tryd.prog.underlying e = some (.int k)) (hc : Tryd.prog.cellsOf e = 1)
    (h : DataW.trod enc Tryd.prog W 0 (fun _ => true) true fuel t [v] = some x) :
    ∃ (ns : List Int) (A : Option Addr) (cap : Nat), v = .slice A ns.length cap ∧ ns.length ≤ cap ∧ cap ≤ maxLen ∧ ∀ (j : Nat) (n : Int), ns[j]? = some n → (Lit.int k n).wf = true ∧ ∃ b off, A = some ⟨b, off, none⟩ ∧ b < W.heap.size ∧ W.cell? ⟨b, off + j, none⟩ = some (.int k n) := by
  rcases open_slice1 ht hc h with ⟨hcs, _⟩ | ⟨a, len, cap, m, n, V, D, Pl, hcs, _, hl, hm, hmm, _, hi⟩
  · simp only [List.cons.injEq, and_true] at hcs
    exact ⟨[], none, 0, hcs, by simp, by simp, fun j n hj => by simp at hj⟩
  · simp only [List.cons.injEq, and_true] at hcs
    subst hcs
    simp only [if_true] at hmm
    have key : ∀ i : Fin len, ∃ n : Int, W.cell? (a.add i) = some (.int k n) ∧ (Lit.int k n).wf = true := fun i => by
      obtain ⟨h1, h2⟩ := hi i (by have := i.2; omega)
      obtain ⟨n, h3, _, h4⟩ := DataW.trod_int he h2
      simp only [List.cons.injEq, and_true] at h3
      exact ⟨n, by rw [h1, h3], h4⟩
    obtain ⟨f, hf⟩ := Classical.axiomOfChoice key
    refine ⟨List.ofFn f, some a, cap, by rw [List.length_ofFn], by rw [List.length_ofFn]; exact hl, hm, fun j n hj => ?_⟩
    have hjl : j < len := by
      have := (List.getElem?_eq_some_iff.1 hj).1
      simpa using this
    have e : n = f ⟨j, hjl⟩ := by
      rw [List.getElem?_ofFn, dif_pos hjl] at hj
      exact (Option.some.inj hj).symm
    subst e
    have hp : ∃ b off, a = ⟨b, off, none⟩ := by
      have hs := World.cell?_spot (hf ⟨0, by omega⟩).1
      obtain ⟨b, off, spot⟩ := a
      have : spot = none := by
        simpa [Addr.add] using hs
      exact ⟨b, off, by rw [this]⟩
    obtain ⟨b, off, rfl⟩ := hp
    have g := hf ⟨j, hjl⟩
    simp only [add_plain] at g
    refine ⟨g.2, b, off, rfl, ?_, g.1⟩
    rcases Nat.lt_or_ge b W.heap.size with hlt | hge
    · exact hlt
    · have := g.1
      simp [World.cell?, Array.getElem?_eq_none hge] at this
theorem max_le {n : Nat} (h : n ≤ maxLen) : n ≤ 9223372036854775807 := by unfold maxLen at h; omega
theorem bytes_of {H : Type} {enc : TypeId × Value → H} {W : World} {fuel : Nat} {v : Value} {x : DataW H × List MemPlace}
    (h : DataW.trod enc Tryd.prog W 0 (fun _ => true) true fuel 22 [v] = some x) :
    ∃ (l : List UInt8) (A : Option Addr) (cap : Nat), v = .slice A l.length cap ∧ l.length ≤ cap ∧ l.length ≤ 9223372036854775807 ∧ Rd W A l := by
  obtain ⟨ns, A, cap, hv, hl, hm, hn⟩ := nums_of Tryd.underlying22 Tryd.underlying5 Tryd.cellsU8 h
  have hlen : (ns.map fun n => UInt8.ofNat n.toNat).length = ns.length := List.length_map _
  refine ⟨ns.map fun n => UInt8.ofNat n.toNat, A, cap, by rw [hlen]; exact hv, by rw [hlen]; exact hl, by rw [hlen]; exact max_le (Nat.le_trans hl hm), fun hp => ?_⟩
  rw [hlen] at hp
  obtain ⟨_, b, off, hA, hb, _⟩ := hn 0 _ (List.getElem?_eq_getElem hp)
  refine ⟨b, off, hA, hb, fun j y hj => ?_⟩
  rw [List.getElem?_map, Option.map_eq_some_iff] at hj
  obtain ⟨n, hj, rfl⟩ := hj
  obtain ⟨hw, b', off', hA', _, hc⟩ := hn j n hj
  rw [hA] at hA'
  injection hA' with hA'
  injection hA' with h1 h2
  subst h1 h2
  have hbd := bounds_u8 hw
  rw [hc]
  simp only [Option.some.injEq, Value.int.injEq, true_and]
  rw [UInt8.toNat_ofNat']
  omega
theorem ints_of {H : Type} {enc : TypeId × Value → H} {W : World} {fuel : Nat} {v : Value} {x : DataW H × List MemPlace}
    (h : DataW.trod enc Tryd.prog W 0 (fun _ => true) true fuel 30 [v] = some x) :
    ∃ (l : List Int) (A : Option Addr) (cap : Nat), v = .slice A l.length cap ∧ l.length ≤ cap ∧ l.length ≤ 9223372036854775807 ∧ RdI W A l := by
  obtain ⟨ns, A, cap, hv, hl, hm, hn⟩ := nums_of Tryd.underlying30 Tryd.underlying3 Tryd.cellsInt h
  exact ⟨ns, A, cap, hv, hl, max_le (Nat.le_trans hl hm), fun j n hj => ⟨bounds_i64 (hn j n hj).1, (hn j n hj).2⟩⟩
end Go.Proofs.YtbdbccdkimkhbaaDoor
