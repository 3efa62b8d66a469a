/-
  OWN WORK. What package crc's calls want of the world: its table of half bytes lies there.
-/
import Derived.Test.YtdopgnfggpdfoaaDoorBaRow
namespace Go.Proofs.YtdopgnfggpdfoaaDoor
open Go.RowKit
def halvesL : List Int := [0, 498536548, 997073096, 651767980, 1994146192, 1802195444, 1303535960, 1342533948, 3988292384, 4027552580, 3604390888, 3412177804, 2607071920, 2262029012, 2685067896, 3183342108]
def Env (w : World) : Prop := ∀ i, i < 16 → w.cell? ⟨0, i, none⟩ = some (.int .u32 (halvesL.getD i 0))
theorem Env.pos {w : World} (h : Env w) : 0 < w.heap.size := by
  have := h 0 (by omega)
  rcases Nat.lt_or_ge 0 w.heap.size with hlt | hge
  · exact hlt
  · exfalso
    simp only [World.cell?] at this
    rw [Array.getElem?_eq_none hge] at this
    cases this
theorem Env.under {B : Nat} {w w' : World} (h : Env w) (hb : Below B w w') (hB : 0 < B) : Env w' := fun i hi => (hb.cell hB).trans (h i hi)
theorem Later.env {w w' : World} (h : Later w w') (hk : Env w) : Env w' := hk.under h hk.pos
end Go.Proofs.YtdopgnfggpdfoaaDoor
