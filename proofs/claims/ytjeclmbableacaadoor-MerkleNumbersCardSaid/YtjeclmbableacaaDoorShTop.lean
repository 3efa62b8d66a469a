/-
  OWN WORK. SHA-256: Sum, Leaf, Pair by their contracts.
-/
import Derived.Test.YtjeclmbableacaaDoorShWrite
namespace Go.Proofs.YtjeclmbableacaaDoor
open Go.RowKit Sh

set_option maxHeartbeats 1000000 in
set_option maxRecDepth 100000 in
theorem sum_any (w : World) (l : List UInt8) (A : Option Addr) (cap : Nat) (hr : Rd w A l) (hcap : l.length ≤ cap) (hK : KAt w) (hl : l.length ≤ 1099511627776) :
    Calls Tryd.prog 26 #[.slice A l.length cap] w fun e w' => ∃ v, e = .returned v ∧ w'.ownsRow w.heap.size 5 1 v 32 (Lib.byteCells (Sh.sum l)) ∧ Below w.heap.size w w' := by
  have HR : Hid (Rd w A l) := hr
  have HK : Hid (KAt w) := hK
  clear hr hK
  go_enter Tryd.func26, Tryd.ntmps26
  go_wp2_with fail
  refine (new_any w).mono ?_
  rintro e w1 ⟨B, rfl, hB, hs1, hb1⟩
  have HB := Lib.hid hB
  have HS1 : Hid (St w1 B []) := hs1
  have HB1 : Hid (Below w.heap.size w w1) := hb1
  clear hs1 hb1 hB
  go_wp2_with fail
  refine (write_any w1 B [] l A cap HS1.out (HK.out.below HB1.out HK.out.pos) (by have := HK.out.pos; have := HB.out; omega) (HR.out.far HB.out) (HR.out.below HB1.out) hcap (by simpa using hl)).mono ?_
  rintro e w2 ⟨rfl, hs2, hk2⟩
  have HS2 : Hid (St w2 B l) := hs2
  have HB2 : Hid (Below w.heap.size w w2) := Keeps.below HB1.out hk2 HB.out HB1.out.size
  clear hs2 hk2
  go_wp2_with fail
  refine (streamSum_any w2 B l HS2.out (HK.out.below HB2.out HK.out.pos) hl).mono ?_
  rintro e w3 ⟨v, rfl, hown, hb3⟩
  have HF : Hid (w3.ownsRow w.heap.size 5 1 v 32 (Lib.byteCells (Sh.sum l)) ∧ Below w.heap.size w w3) := ⟨own_mono hown HB2.out.size, HB2.out.trans (hb3.mono HB2.out.size)⟩
  clear hown hb3
  go_wp2_with fail
  go_ret
  exact ⟨_, rfl, HF.out⟩

set_option maxHeartbeats 1000000 in
set_option maxRecDepth 100000 in
theorem leaf_any (w : World) (l : List UInt8) (A : Option Addr) (cap : Nat) (hr : Rd w A l) (hcap : l.length ≤ cap) (hK : KAt w) (hl : l.length ≤ 1099511627775) :
    Calls Tryd.prog 27 #[.slice A l.length cap] w fun e w' => ∃ v, e = .returned v ∧ w'.ownsRow w.heap.size 5 1 v 32 (Lib.byteCells (Sh.sum (0 :: l))) ∧ Below w.heap.size w w' := by
  have HR : Hid (Rd w A l) := hr
  have HK : Hid (KAt w) := hK
  clear hr hK
  go_enter Tryd.func27, Tryd.ntmps27
  go_wp2_with fail
  refine (new_any w).mono ?_
  rintro e w1 ⟨B, rfl, hB, hs1, hb1⟩
  have HB := Lib.hid hB
  have HS1 : Hid (St w1 B []) := hs1
  have HB1 : Hid (Below w.heap.size w w1) := hb1
  clear hs1 hb1 hB
  go_wp2_with fail
  have hz : B < w1.heap.size := HS1.out.lt
  have HW : Hid (Below w.heap.size w (w1.alloc (.cells #[.int .u8 0] 5))) := HB1.out.alloc HB1.out.size _
  refine (write_any _ B [] [0] (some ⟨w1.heap.size, 0, none⟩) 1 (HS1.out.below ((Below.refl _ _).alloc (Nat.le_refl _) _)) (HK.out.below HW.out HK.out.pos) (by have := HK.out.pos; have := HB.out; omega) (rd_far 0 hz) (rd_one w1 0 _) (by simp) (by simp)).mono ?_
  rintro e w2 ⟨rfl, hs2, hk2⟩
  have HS2 : Hid (St w2 B [0]) := hs2
  have HB2 : Hid (Below w.heap.size w w2) := Keeps.below HW.out hk2 HB.out HW.out.size
  clear hs2 hk2 HW
  go_wp2_with fail
  refine (write_any w2 B [0] l A cap HS2.out (HK.out.below HB2.out HK.out.pos) (by have := HK.out.pos; have := HB.out; omega) (HR.out.far HB.out) (HR.out.below HB2.out) hcap (by simp; omega)).mono ?_
  rintro e w3 ⟨rfl, hs3, hk3⟩
  have HS3 : Hid (St w3 B (0 :: l)) := hs3
  have HB3 : Hid (Below w.heap.size w w3) := Keeps.below HB2.out hk3 HB.out HB2.out.size
  clear hs3 hk3
  go_wp2_with fail
  refine (streamSum_any w3 B (0 :: l) HS3.out (HK.out.below HB3.out HK.out.pos) (by simp; omega)).mono ?_
  rintro e w4 ⟨v, rfl, hown, hb4⟩
  have HF : Hid (w4.ownsRow w.heap.size 5 1 v 32 (Lib.byteCells (Sh.sum (0 :: l))) ∧ Below w.heap.size w w4) := ⟨own_mono hown HB3.out.size, HB3.out.trans (hb4.mono HB3.out.size)⟩
  clear hown hb4
  go_wp2_with fail
  go_ret
  exact ⟨_, rfl, HF.out⟩

set_option maxHeartbeats 1000000 in
set_option maxRecDepth 100000 in
theorem pair_any (w : World) (l l2 : List UInt8) (A A2 : Option Addr) (cap cap2 : Nat) (hr : Rd w A l) (hcap : l.length ≤ cap) (hr2 : Rd w A2 l2) (hcap2 : l2.length ≤ cap2) (hK : KAt w) (hl : l.length + l2.length ≤ 1099511627775) :
    Calls Tryd.prog 29 #[.slice A l.length cap, .slice A2 l2.length cap2] w fun e w' => ∃ v, e = .returned v ∧ w'.ownsRow w.heap.size 5 1 v 32 (Lib.byteCells (Sh.sum (1 :: (l ++ l2)))) ∧ Below w.heap.size w w' := by
  have HR : Hid (Rd w A l) := hr
  have HR2 : Hid (Rd w A2 l2) := hr2
  have HK : Hid (KAt w) := hK
  clear hr hr2 hK
  go_enter Tryd.func29, Tryd.ntmps29
  go_wp2_with fail
  refine (new_any w).mono ?_
  rintro e w1 ⟨B, rfl, hB, hs1, hb1⟩
  have HB := Lib.hid hB
  have HS1 : Hid (St w1 B []) := hs1
  have HB1 : Hid (Below w.heap.size w w1) := hb1
  clear hs1 hb1 hB
  go_wp2_with fail
  have hz : B < w1.heap.size := HS1.out.lt
  have HW : Hid (Below w.heap.size w (w1.alloc (.cells #[.int .u8 1] 5))) := HB1.out.alloc HB1.out.size _
  refine (write_any _ B [] [1] (some ⟨w1.heap.size, 0, none⟩) 1 (HS1.out.below ((Below.refl _ _).alloc (Nat.le_refl _) _)) (HK.out.below HW.out HK.out.pos) (by have := HK.out.pos; have := HB.out; omega) (rd_far 1 hz) (rd_one w1 1 _) (by simp) (by simp)).mono ?_
  rintro e w2 ⟨rfl, hs2, hk2⟩
  have HS2 : Hid (St w2 B [1]) := hs2
  have HB2 : Hid (Below w.heap.size w w2) := Keeps.below HW.out hk2 HB.out HW.out.size
  clear hs2 hk2 HW
  go_wp2_with fail
  refine (write_any w2 B [1] l A cap HS2.out (HK.out.below HB2.out HK.out.pos) (by have := HK.out.pos; have := HB.out; omega) (HR.out.far HB.out) (HR.out.below HB2.out) hcap (by simp; omega)).mono ?_
  rintro e w3 ⟨rfl, hs3, hk3⟩
  have HS3 : Hid (St w3 B (1 :: l)) := hs3
  have HB3 : Hid (Below w.heap.size w w3) := Keeps.below HB2.out hk3 HB.out HB2.out.size
  clear hs3 hk3
  go_wp2_with fail
  refine (write_any w3 B (1 :: l) l2 A2 cap2 HS3.out (HK.out.below HB3.out HK.out.pos) (by have := HK.out.pos; have := HB.out; omega) (HR2.out.far HB.out) (HR2.out.below HB3.out) hcap2 (by simp; omega)).mono ?_
  rintro e w4 ⟨rfl, hs4, hk4⟩
  have HS4 : Hid (St w4 B (1 :: (l ++ l2))) := hs4
  have HB4 : Hid (Below w.heap.size w w4) := Keeps.below HB3.out hk4 HB.out HB3.out.size
  clear hs4 hk4
  go_wp2_with fail
  refine (streamSum_any w4 B (1 :: (l ++ l2)) HS4.out (HK.out.below HB4.out HK.out.pos) (by simp; omega)).mono ?_
  rintro e w5 ⟨v, rfl, hown, hb5⟩
  have HF : Hid (w5.ownsRow w.heap.size 5 1 v 32 (Lib.byteCells (Sh.sum (1 :: (l ++ l2)))) ∧ Below w.heap.size w w5) := ⟨own_mono hown HB4.out.size, HB4.out.trans (hb5.mono HB4.out.size)⟩
  clear hown hb5
  go_wp2_with fail
  go_ret
  exact ⟨_, rfl, HF.out⟩
end Go.Proofs.YtjeclmbableacaaDoor
