/-
  OWN WORK. What package crc's calls do, as it is asked; the law's own runs.
-/
import Derived.Test.YtdopgnfggpdfoaaDoorCrRef
import Derived.Test.YtdopgnfggpdfoaaDoorCrEnv
import Derived.Test.YtdopgnfggpdfoaaDoorBaCut
import Derived.Test.YtdopgnfggpdfoaaDoorBaWithin
import Derived.Test.YtdopgnfggpdfoaaDoorBaRg
namespace Go.Proofs.YtdopgnfggpdfoaaDoor
open Go.RowKit Cr

def SumSaid : Prop := ∀ (w : World) (l : List UInt8) (A : Option Addr) (cap : Nat), Env w → Rd w A l → l.length ≤ cap → l.length ≤ 1000000 →
    Calls Tryd.prog 7 #[.slice A l.length cap] w fun e w' => e = .returned (.int .u32 (Cr.sum l : Nat)) ∧ Below w.heap.size w w'
def MoreSaid : Prop := ∀ (w : World) (c : Nat) (l : List UInt8) (A : Option Addr) (cap : Nat), c < 4294967296 → Env w → Rd w A l → l.length ≤ cap → l.length ≤ 1000000 →
    Calls Tryd.prog 9 #[.int .u32 (c : Nat), .slice A l.length cap] w fun e w' => e = .returned (.int .u32 (Cr.more c l : Nat)) ∧ Below w.heap.size w w'
theorem more_to (H : MoreSaid) (w : World) (c : Nat) (l : List UInt8) (A : Option Addr) (cap x : Nat) (hc : c < 4294967296) (he : Env w) (hr : Rd w A l) (h1 : l.length ≤ cap) (h2 : l.length ≤ 1000000) (hx : Cr.more c l = x) :
    Calls Tryd.prog 9 #[.int .u32 (c : Nat), .slice A l.length cap] w fun e w' => e = .returned (.int .u32 (x : Nat)) ∧ Below w.heap.size w w' := by
  subst hx; exact H w c l A cap hc he hr h1 h2
theorem known_sum : Cr.sum [49, 50, 51, 52, 53, 54, 55, 56, 57] = 3421780262 := by kernel_rfl
theorem sum_nil : Cr.sum [] = 0 := by kernel_rfl

set_option maxHeartbeats 1000000 in
set_option maxRecDepth 100000 in
theorem known_any (hS : SumSaid) (w : World) (hE : Env w) : Calls Tryd.prog 10 #[] w fun e w' => e = .returned (.bool true) ∧ Below w.heap.size w w' := by
  have HS : Hid SumSaid := hS
  have HE : Hid (Env w) := hE
  clear hS hE
  have kc := fun (w : World) (C : Array Value) (n c : Nat) => Lib.run_convert_bytes_const (P := Tryd.prog) w 22 5 C n c Tryd.underlying22 Tryd.underlying5
  go_enter Tryd.func10, Tryd.ntmps10
  go_wp2_with fail
  obtain ⟨w1, hw1⟩ : ∃ x, x = w.alloc (.cells #[.int .u8 49, .int .u8 50, .int .u8 51, .int .u8 52, .int .u8 53, .int .u8 54, .int .u8 55, .int .u8 56, .int .u8 57] 5 (9, 10)) := ⟨_, rfl⟩
  have HR : Rd w1 (some ⟨w.heap.size, 0, none⟩) [49, 50, 51, 52, 53, 54, 55, 56, 57] := by rw [hw1]; exact rd_alloc w [49, 50, 51, 52, 53, 54, 55, 56, 57] _ _
  have HL : Hid (Later w w1) := by show Later _ _; rw [hw1]; exact Later.alloc _ _
  rw [← hw1]
  refine (HS.out w1 [49, 50, 51, 52, 53, 54, 55, 56, 57] _ 9 (HL.out.env HE.out) HR (by simp) (by simp)).mono ?_
  rintro e w2 ⟨rfl, hb⟩
  rw [known_sum]
  have HL2 : Hid (Later w w2) := HL.out.trans hb
  clear hb HR hw1 kc
  go_wp2_with fail
  refine (HS.out w2 [] none 0 (HL2.out.env HE.out) (Rd.nil _ _) (by simp) (by simp)).mono ?_
  rintro e w3 ⟨rfl, hb⟩
  rw [sum_nil]
  have HL3 : Hid (Later w w3) := HL2.out.trans hb
  clear hb
  go_wp2_with fail
  go_ret
  exact ⟨rfl, HL3.out⟩
end Go.Proofs.YtdopgnfggpdfoaaDoor
