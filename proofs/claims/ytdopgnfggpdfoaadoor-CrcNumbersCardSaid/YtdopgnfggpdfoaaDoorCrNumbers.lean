/-
  OWN WORK. The law CrcNumbers, walked, given what package crc's calls do.
-/
import Derived.Test.YtdopgnfggpdfoaaDoorCrSaid
namespace Go.Proofs.YtdopgnfggpdfoaaDoor
open Go.RowKit Cr

set_option maxHeartbeats 8000000 in
set_option maxRecDepth 100000 in
theorem numbers_any (hS : SumSaid) (hM : MoreSaid) (w : World) (hE : Env w) :
    Calls Tryd.prog 3 #[] w fun e w' => e = .returned (.bool true) ∧ Below w.heap.size w w' := by
  have HS : Hid SumSaid := hS
  have HM : Hid MoreSaid := hM
  have HE : Hid (Env w) := hE
  clear hS hM hE
  go_enter Tryd.func3, Tryd.ntmps3
  go_wp2_with fail
  go_loopw [1] (fun t1 wr => ∃ i : Nat, i ≤ 256 ∧ t1 = .int .i64 (i : Nat) ∧ Hid (Later w wr)) (fun t1 _ => 256 - (intOf t1).toNat)
  case atStart => exact ⟨0, by omega, rfl, Later.refl _⟩
  case round =>
    obtain ⟨i, hi, rfl, HL⟩ := hrel
    by_cases hlt : i < 256
    · obtain ⟨bx, hbx⟩ : ∃ b : UInt8, ((b.toNat : Nat) : Int) = (i : Int) := ⟨UInt8.ofNat i, by rw [UInt8.toNat_ofNat']; omega⟩
      have HX : Hid (((bx.toNat : Nat) : Int) = (i : Int)) := hbx
      clear hbx
      go_wp2_with fail
      obtain ⟨w1, hw1⟩ : ∃ x, x = wr.alloc (.cells #[.int .u8 (i : Int)] 5) := ⟨_, rfl⟩
      have HR : Hid (Rd w1 (some ⟨wr.heap.size, 0, none⟩) [bx]) := by show Rd _ _ _; rw [hw1]; exact rd_new wr bx _ _ HX.out
      have HL1 : Hid (Later w w1) := by show Later _ _; rw [hw1]; exact HL.out.trans (Later.alloc _ _)
      rw [← hw1]
      clear hw1
      generalize wr.heap.size = g at *
      refine (HS.out w1 [bx] _ 1 (HL1.out.env HE.out) HR.out (by simp) (by simp)).mono ?_
      rintro e w2 ⟨rfl, hb⟩
      have HL2 : Hid (Later w w2) := HL1.out.trans hb
      have HR2 : Hid (Rd w2 (some ⟨g, 0, none⟩) [bx]) := HR.out.below hb
      clear hb HL1 HR
      go_wp2_with fail
      refine (refSum_any w2 [bx] _ 1 HR2.out (by simp)).mono ?_
      rintro e w' ⟨rfl, rfl⟩
      go_wp2_with fail
      refine (HS.out w2 [bx] _ 1 (HL2.out.env HE.out) HR2.out (by simp) (by simp)).mono ?_
      rintro e w3 ⟨rfl, hb⟩
      have HL3 : Hid (Later w w3) := HL2.out.trans hb
      have HR3 : Hid (Rd w3 (some ⟨g, 0, none⟩) [bx]) := HR2.out.below hb
      clear hb HL2 HR2
      go_wp2_with fail
      refine (more_to HM.out w3 (Cr.sum [bx]) [bx] _ 1 (Cr.sum [bx, bx]) (sum_lt _) (HL3.out.env HE.out) HR3.out (by simp) (by simp) (more_sum _ _)).mono ?_
      rintro e w4 ⟨rfl, hb⟩
      have HL4 : Hid (Later w w4) := HL3.out.trans hb
      clear hb HL3 HR3
      go_wp2_with fail
      obtain ⟨w5, hw5⟩ : ∃ x, x = w4.alloc (.cells #[.int .u8 (i : Int), .int .u8 (i : Int)] 5) := ⟨_, rfl⟩
      have HR5 : Hid (Rd w5 (some ⟨w4.heap.size, 0, none⟩) [bx, bx]) := by show Rd _ _ _; rw [hw5, ← HX.out]; exact rd_alloc w4 [bx, bx] _ _
      have HL5 : Hid (Later w w5) := by show Later _ _; rw [hw5]; exact HL4.out.trans (Later.alloc _ _)
      rw [← hw5]
      clear hw5
      refine (refSum_any w5 [bx, bx] _ 2 HR5.out (by simp)).mono ?_
      rintro e w' ⟨rfl, rfl⟩
      go_wp2_with fail
      go_roundw
      case rel => exact ⟨i + 1, by omega, by go_num, HL5⟩
      case measure => simp [intOf]; omega
    · obtain rfl : i = 256 := by omega
      go_wp2_with fail
      refine (more_to HM.out wr 0 [] none 0 0 (by decide) (HL.out.env HE.out) (Rd.nil _ _) (by simp) (by simp) (by rw [more_zero, sum_nil])).mono ?_
      rintro e w2 ⟨rfl, hb⟩
      have HL2 : Hid (Later w w2) := HL.out.trans hb
      clear hb HL
      go_wp2_with fail
      refine (known_any HS.out w2 (HL2.out.env HE.out)).mono ?_
      rintro e w3 ⟨rfl, hb⟩
      have HL3 : Hid (Later w w3) := HL2.out.trans hb
      clear hb HL2
      go_wp2_with fail
      go_ret
      exact ⟨rfl, HL3.out⟩
end Go.Proofs.YtdopgnfggpdfoaaDoor
