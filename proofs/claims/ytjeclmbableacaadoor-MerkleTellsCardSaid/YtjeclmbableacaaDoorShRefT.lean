/-
  OWN WORK. The document's Leaf and Pair, by their contracts.
-/
import Derived.Test.YtjeclmbableacaaDoorShPad
import Derived.Test.YtjeclmbableacaaDoorShRefSum
import Derived.Test.YtjeclmbableacaaDoorShRefM
namespace Go.Proofs.YtjeclmbableacaaDoor
open Go.RowKit Sh

theorem refSum_sum (w : World) (l : List UInt8) (A : Option Addr) (cap : Nat) (hr : Rd w A l) (hl : l.length ≤ 1099511627000) :
    Calls Tryd.prog 30 #[.slice A l.length cap] w fun e w' => ∃ v, e = .returned v ∧ w'.ownsRow w.heap.size 5 1 v 32 (Lib.byteCells (Sh.sum l)) ∧ Below w.heap.size w w' := by
  have := refSum_any w l A cap hr hl
  rw [padded_sum] at this
  exact this
end Go.Proofs.YtjeclmbableacaaDoor
namespace Go.Proofs.YtjeclmbableacaaDoor
open Go.RowKit Sh

/-- What the document's Sum is said to do. -/
def RefSumSaid : Prop := ∀ (w : World) (l : List UInt8) (A : Option Addr) (cap : Nat), Rd w A l → l.length ≤ 1099511627000 →
    Calls Tryd.prog 30 #[.slice A l.length cap] w fun e w' => ∃ v, e = .returned v ∧ w'.ownsRow w.heap.size 5 1 v 32 (Lib.byteCells (Sh.sum l)) ∧ Below w.heap.size w w'

theorem own_grown {w w' : World} {B : Nat} {v v' : Value} {n m : Nat} {l r : List UInt8} (hb : Below B w w') (_ho : w'.ownsRow B 5 1 v n (Lib.byteCells l)) (hr : w'.ownsRow B 5 1 v' m (Lib.byteCells l ++ Lib.byteCells r)) : w'.ownsRow B 5 1 v' m (Lib.byteCells (l ++ r)) ∧ Below B w w' := by
  rw [Lib.byteCells_append]
  exact ⟨hr, hb⟩

set_option maxHeartbeats 1000000 in
theorem refLeaf_any (HSUM : Hid RefSumSaid) (w : World) (l : List UInt8) (A : Option Addr) (cap : Nat) (hr : Rd w A l) (hl : l.length ≤ 1099511626000) :
    Calls Tryd.prog 24 #[.slice A l.length cap] w fun e w' => ∃ v, e = .returned v ∧ w'.ownsRow w.heap.size 5 1 v 32 (Lib.byteCells (Sh.sum (0 :: l))) ∧ Below w.heap.size w w' := by
  obtain ⟨i0, hi, hz0, hz1, hz2⟩ := info_parts Tryd.infoU8
  have HI0 := Lib.hid hi
  have HZ0 := Lib.hid hz0
  have HZ1 := Lib.hid hz1
  have HZ2 := Lib.hid hz2
  have H0 : Hid ((w.alloc (.cells #[.int .u8 0] 5)).ownsRow w.heap.size 5 1 (.slice (some ⟨w.heap.size, 0, none⟩) 1 1) 1 (Lib.byteCells [0])) := own_one w 0
  have HRW : Hid (Rd (w.alloc (.cells #[.int .u8 0] 5)) A l) := hr.below (below_new w _)
  have HBW : Hid (w.heap.size ≤ (w.alloc (.cells #[.int .u8 0] 5)).heap.size) := by show _ ≤ _; rw [World.size_alloc]; omega
  clear hi hz0 hz1 hz2 hr
  go_enter Tryd.func24, Tryd.ntmps24
  go_wp2_with (at_builtin; refine wpList_append_rd rfl _ _ 23 rfl w.heap.size 5 i0 Tryd.underlying23 HI0.out HZ0.out HZ1.out HZ2.out _ 1 (Lib.byteCells [0]) rfl H0.out A l l.length cap rfl rfl HRW.out (by omega) HBW.out ?_; intro v1 w1 HO1 HG1)
  have HB1 : Hid (Below w.heap.size w w1) := (below_new w _).grown HG1.out HBW.out (fun g hg => H0.out.ownBlock_ge g hg)
  have HO : w1.ownsRow w.heap.size 5 1 v1 (1 + l.length) (Lib.byteCells (0 :: l)) := HO1.out
  obtain ⟨g, c1, rfl, _, _, _, hln, hrd⟩ := rd_own HO (by omega)
  rw [← hln]
  refine (HSUM.out w1 (0 :: l) _ c1 hrd (by simp; omega)).mono ?_
  rintro e w2 ⟨v2, rfl, hown, hb2⟩
  have HF : Hid (w2.ownsRow w.heap.size 5 1 v2 32 (Lib.byteCells (Sh.sum (0 :: l))) ∧ Below w.heap.size w w2) := ⟨own_mono hown HB1.out.size, HB1.out.trans (hb2.mono HB1.out.size)⟩
  clear hown hb2 hrd hln HO
  go_wp2_with fail
  go_ret
  exact ⟨_, rfl, HF.out⟩

set_option maxHeartbeats 1000000 in
theorem refPair_any (HSUM : Hid RefSumSaid) (w : World) (l l2 : List UInt8) (A A2 : Option Addr) (cap cap2 : Nat) (hr : Rd w A l) (hr2 : Rd w A2 l2) (hl : l.length + l2.length ≤ 1099511626000) :
    Calls Tryd.prog 25 #[.slice A l.length cap, .slice A2 l2.length cap2] w fun e w' => ∃ v, e = .returned v ∧ w'.ownsRow w.heap.size 5 1 v 32 (Lib.byteCells (Sh.sum (1 :: (l ++ l2)))) ∧ Below w.heap.size w w' := by
  obtain ⟨i0, hi, hz0, hz1, hz2⟩ := info_parts Tryd.infoU8
  have HI0 := Lib.hid hi
  have HZ0 := Lib.hid hz0
  have HZ1 := Lib.hid hz1
  have HZ2 := Lib.hid hz2
  have HR2 : Hid (Rd w A2 l2) := hr2
  have H0 : Hid ((w.alloc (.cells #[.int .u8 1] 5)).ownsRow w.heap.size 5 1 (.slice (some ⟨w.heap.size, 0, none⟩) 1 1) 1 (Lib.byteCells [1])) := own_one w 1
  have HRW : Hid (Rd (w.alloc (.cells #[.int .u8 1] 5)) A l) := hr.below (below_new w _)
  have HBW : Hid (w.heap.size ≤ (w.alloc (.cells #[.int .u8 1] 5)).heap.size) := by show _ ≤ _; rw [World.size_alloc]; omega
  clear hi hz0 hz1 hz2 hr hr2
  go_enter Tryd.func25, Tryd.ntmps25
  go_wp2_with (first
    | (at_builtin; refine wpList_append_rd rfl (.tmp 5) (.tmp 6) 23 rfl w.heap.size 5 i0 Tryd.underlying23 HI0.out HZ0.out HZ1.out HZ2.out _ 1 (Lib.byteCells [1]) rfl H0.out A l l.length cap rfl rfl HRW.out (by omega) HBW.out ?_; intro v1 w1 HO1 HG1; have HB1 : Hid (Below w.heap.size w w1) := (below_new w _).grown HG1.out HBW.out (fun g hg => H0.out.ownBlock_ge g hg); have HR21 : Hid (Rd w1 A2 l2) := HR2.out.below HB1.out)
    | (at_builtin; refine wpList_append_rd rfl (.tmp 7) (.tmp 8) 23 rfl w.heap.size 5 i0 Tryd.underlying23 HI0.out HZ0.out HZ1.out HZ2.out v1 (1 + l.length) (Lib.byteCells [1] ++ Lib.byteCells l) rfl HO1.out A2 l2 l2.length cap2 rfl rfl HR21.out (by omega) HB1.out.size ?_; intro v2 w2 HO2 HG2; have HB2 : Hid (Below w.heap.size w w2) := HB1.out.grown HG2.out HB1.out.size (fun g hg => World.ownsRow.ownBlock_ge HO1.out g hg)))
  have HO : w2.ownsRow w.heap.size 5 1 v2 (1 + l.length + l2.length) (Lib.byteCells (1 :: (l ++ l2))) := by
    have := HO2.out
    rw [← Lib.byteCells_append, ← Lib.byteCells_append] at this
    exact this
  obtain ⟨g, c1, rfl, _, _, _, hln, hrd⟩ := rd_own HO (by omega)
  rw [← hln]
  refine (HSUM.out w2 (1 :: (l ++ l2)) _ c1 hrd (by simp; omega)).mono ?_
  rintro e w3 ⟨v3, rfl, hown, hb3⟩
  have HF : Hid (w3.ownsRow w.heap.size 5 1 v3 32 (Lib.byteCells (Sh.sum (1 :: (l ++ l2)))) ∧ Below w.heap.size w w3) := ⟨own_mono hown HB2.out.size, HB2.out.trans (hb3.mono HB2.out.size)⟩
  clear hown hb3 hrd hln HO
  go_wp2_with fail
  go_ret
  exact ⟨_, rfl, HF.out⟩
end Go.Proofs.YtjeclmbableacaaDoor
