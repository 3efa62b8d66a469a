/-
  OWN WORK. From the row's hypothesis to the table's cells; a world that meets it.
-/
import Derived.Test.YtdopgnfggpdfoaaDoorBaFrame
import Derived.Test.YtdopgnfggpdfoaaDoorCrEnv
namespace Go.Proofs.YtdopgnfggpdfoaaDoor
open Go.ChangeShapes Go.WideShapes Go.RowKit Go.Deep

theorem Tryd.kname : Tryd.prog.globalNamed "permafrost/crc.halves" = some 0 := by kernel_rfl
theorem Tryd.ktype : (Tryd.prog.globals[0]?).map (·.type) = some 33 := by kernel_rfl
theorem Tryd.cellsU32 : Tryd.prog.cellsOf 23 = 1 := by kernel_rfl
theorem laid_is : (Rows.laid_permafrost_crc_halves : DataW Unit) = .agg (halvesL.map fun n => .lit (.int .u32 n)) := by rfl

theorem env_of (W : World) (h : laidMetH Tryd.prog [("permafrost/crc.halves", Rows.laid_permafrost_crc_halves)] W) : Env W := by
  have h' : laidMet Tryd.prog [("permafrost/crc.halves", Rows.laid_permafrost_crc_halves)] W := h
  obtain ⟨ps, ⟨g, t, cs, fuel, p, q, e1, e2, e3, e4, _, _⟩, _⟩ := h'
  obtain rfl := Option.some.inj (Tryd.kname.symm.trans e1)
  obtain rfl := Option.some.inj (Tryd.ktype.symm.trans e2)
  obtain ⟨xs, m, _, hx, hcl, hxl, hi⟩ := DataW.trod_array Tryd.underlying33 e4
  simp only [Prod.mk.injEq] at hx
  rw [laid_is] at hx
  have hx1 : halvesL.map (fun n => (DataW.lit (.int .u32 n) : DataW Unit)) = xs.map (·.1) := by
    have := hx.1
    injection this
  intro i hlt
  have h1 := hi i hlt
  rw [Tryd.cellsU32, Nat.mul_one] at h1
  have hxi : xs[i]? = some (xs[i]'(by omega)) := List.getElem?_eq_getElem _
  rw [hxi] at h1
  obtain ⟨n, hn1, hn2, _⟩ := DataW.trod_int Tryd.underlying23 h1
  have hk : (halvesL.map (fun n => (DataW.lit (.int .u32 n) : DataW Unit)))[i]? = (xs.map (·.1))[i]? := by rw [hx1]
  rw [List.getElem?_map, List.getElem?_map, hxi, hn2] at hk
  have hlen : halvesL.length = 16 := rfl
  have hr : halvesL[i]? = some (halvesL[i]'(by omega)) := List.getElem?_eq_getElem _
  rw [hr] at hk
  simp only [Option.map_some, Option.some.injEq, DataW.lit.injEq, Lit.int.injEq, true_and] at hk
  rw [World.var?_cell e1 e3 i]
  have h2 : (cs.toList.drop i)[0]? = some (.int .u32 n) := by
    have : ((cs.toList.drop i).take 1)[0]? = some (.int .u32 n) := by rw [hn1]; rfl
    rwa [List.getElem?_take_of_lt (by omega)] at this
  simp only [List.getElem?_drop, Nat.add_zero, Array.getElem?_toList] at h2
  rw [h2, ← hk]
  simp [List.getD, hr]

noncomputable def laidWorld (os : Os) : World :=
  let w0 := World.holding Tryd.prog os ⟨#[], #[], []⟩
  { w0 with heap := w0.heap.modify 0 fun
      | .cells _ t frozen => .cells (halvesL.map (fun n => Value.int .u32 n)).toArray t frozen
      | o => o }
theorem laidWorld_met (os : Os) (args : Array Value) : laidMetH Tryd.prog [("permafrost/crc.halves", Rows.laid_permafrost_crc_halves)] ((laidWorld os).forCall (fun _ _ => 0) ⟨#[], args, []⟩).memory :=
  laidMet_of_run' 8 (by kernel_rfl) (by kernel_rfl)
end Go.Proofs.YtdopgnfggpdfoaaDoor
