/-
  OWN WORK. The law's own helpers: said, known.
-/
import Derived.Test.YtbidhljigeoooaaDoorFaText
namespace Go.Proofs.YtbidhljigeoooaaDoor
open Go.RowKit

theorem Chain.sets {w w' : World} {l : List (ByteArray × ByteArray)} {base : Base} {v u : Value} {b : Nat} {cs : Array Value} {t : TypeId} {fr : Nat × Nat} (h : Chain w l base v) (hS : Sets w ⟨b, 0, none⟩ u w')
    (hb : w.heap[b]? = some (.cells cs t fr)) (ht : t ≠ 30) : Chain w' l base v := by
  obtain ⟨w1, h1, rfl⟩ := hS
  exact (h.below h1).setCell (by rw [h1.block b (lt_of_block hb)]; exact hb) ht

theorem ErrT.sets {w w' : World} {b : Nat} {u : Value} (h : ErrT w) (hS : Sets w ⟨b, 0, none⟩ u w') (hb : b ≠ 0) : ErrT w' := by
  have e := Sets.other (o := 0) hS (cell_lt h) hb.symm
  unfold ErrT at *
  rw [e]; exact h

set_option maxRecDepth 100000 in
set_option maxHeartbeats 1000000 in
theorem said_fault (hE : ErrorSaid) (q : ByteArray × ByteArray) (l : List (ByteArray × ByteArray)) (base : Base) (b : Nat) (w : World) (hch : Chain w (q :: l) base (.iface 28 (.pointer (some ⟨b, 0, none⟩)))) (hs : Small (q :: l)) (hbs : base.Small) (hg : ErrT w) :
    Calls Tryd.prog 11 #[.iface 28 (.pointer (some ⟨b, 0, none⟩))] w fun e w' => e = .returned (.string (textB (q :: l) base.text)) ∧ Below w.heap.size w w' := by
  have HE := Lib.hid hE
  have HC : Hid (Chain w (q :: l) base (.iface 28 (.pointer (some ⟨b, 0, none⟩)))) := hch
  have HS : Hid (Small (q :: l)) := hs
  have HBS : Hid base.Small := hbs
  have HG : Hid (ErrT w) := hg
  have hpos : 0 < w.heap.size := cell_lt hg
  clear hE hch hs hbs hg
  go_enter Tryd.func11, Tryd.ntmps11
  go_wp2_with fail
  refine (As_F_hit _ ⟨b, 0, none⟩ ⟨w.heap.size, 0, none⟩ (.pointer none) (HG.out.below ((Below.refl _ _).alloc (Nat.le_refl _) _)) (by simp) (by simp)).mono ?_
  rintro e w' ⟨rfl, hS⟩
  have hcell := hS.cell (old := .pointer none) (by simp)
  have HCH : Hid (Chain w' (q :: l) base (.iface 28 (.pointer (some ⟨b, 0, none⟩)))) := (HC.out.alloc (o := .cells #[.pointer none] 28)).sets hS (heap_alloc_new _ _) (by decide)
  have HB : Hid (Below w.heap.size w w') := ((Below.refl _ _).alloc (Nat.le_refl _) _).trans (hS.below (Nat.le_refl _) (by simp))
  clear hS
  go_wp2_with fail
  refine (HE.out q l base b w' HCH.out HS.out HBS.out).mono ?_
  rintro e w'' ⟨rfl, hb2⟩
  have HB2 : Hid (Below w.heap.size w w'') := HB.out.trans (hb2.mono HB.out.size)
  clear hb2
  go_wp2
  go_ret
  exact ⟨rfl, HB2.out⟩

set_option maxRecDepth 100000 in
set_option maxHeartbeats 1000000 in
theorem said_errno (c : Nat) (w : World) (hc : c ≤ 1000) (hg : ErrT w) :
    Calls Tryd.prog 11 #[.iface 31 (.int .i64 c)] w fun e w' => e = .returned (.string (errB c)) ∧ Below w.heap.size w w' := by
  have HG : Hid (ErrT w) := hg
  have hpos : 0 < w.heap.size := cell_lt hg
  clear hg
  go_enter Tryd.func11, Tryd.ntmps11
  go_wp2_with fail
  refine (As_F_num _ (c : Int) ⟨w.heap.size, 0, none⟩ (.pointer none) (HG.out.below ((Below.refl _ _).alloc (Nat.le_refl _) _)) (by simp)).mono ?_
  rintro e w' ⟨rfl, hb⟩
  have HB : Hid (Below w.heap.size w w') := ((Below.refl _ _).alloc (Nat.le_refl _) _).trans (hb.mono (by simp))
  have HG1 : Hid (ErrT w') := (HG.out.below ((Below.refl _ _).alloc (Nat.le_refl _) _)).below hb
  clear hb
  go_wp2_with fail
  refine (As_E_num _ (c : Int) ⟨w'.heap.size, 0, none⟩ (.int .i64 0) [] _ rfl (HG1.out.below ((Below.refl _ _).alloc (Nat.le_refl _) _)) (by simp) (by simp)).mono ?_
  rintro e w'' ⟨rfl, hS⟩
  have hcell := hS.cell (old := .int .i64 0) (by simp)
  have HB2 : Hid (Below w.heap.size w w'') := HB.out.trans ((((Below.refl _ _).alloc (Nat.le_refl _) _).trans (hS.below (Nat.le_refl _) (by simp))).mono HB.out.size)
  clear hS
  go_wp2_with fail
  refine (errno_any c w'' hc).mono ?_
  rintro e w3 ⟨rfl, hb3⟩
  have HB3 : Hid (Below w.heap.size w w3) := HB2.out.trans (hb3.mono HB2.out.size)
  clear hb3
  go_wp2
  go_ret
  exact ⟨rfl, HB3.out⟩
end Go.Proofs.YtbidhljigeoooaaDoor
