/-
  OWN WORK. Law 12's same and known.
-/
import Derived.Test.YtpblhdpnmnfieaaLWoRules
namespace Go.Proofs.Ytpblhdpnmnfieaa
open Go.RowKit
namespace Wo
theorem as_ (id kind links size : Int) (till : Nat) (shut : Bool) : (Nd.val ⟨id, kind, links, size, till, shut⟩) = .agg #[.int .i64 id, .int .i64 kind, .int .i64 links, .int .i64 size, .int .u64 (till : Nat), .bool shut] := rfl

set_option maxHeartbeats 2000000 in
set_option maxRecDepth 100000 in
theorem same_any (n : Nd) (now u : Nat) (w : World) : Calls Try.prog 8 #[n.val, .int .u64 (now : Nat), .int .u64 (u : Nat)] w fun e w' => e = .returned (.bool true) ∧ Below w.heap.size w w' := by
  obtain ⟨id, kind, links, size, till, shut⟩ := n
  have HR := Lib.hid (fun w => rules_any ⟨id, kind, links, size, till, shut⟩ now u w)
  have HA := Lib.hid (fun w => write_any ⟨id, kind, links, size, till, shut⟩ w)
  have HB := Lib.hid (fun w => remove_any ⟨id, kind, links, size, till, shut⟩ now w)
  have HC := Lib.hid (fun w => keep_any ⟨id, kind, links, size, till, shut⟩ u w)
  obtain ⟨a, ha⟩ : ∃ a, a = write ⟨id, kind, links, size, till, shut⟩ := ⟨_, rfl⟩
  obtain ⟨b, hb⟩ : ∃ b, b = remove ⟨id, kind, links, size, till, shut⟩ now := ⟨_, rfl⟩
  obtain ⟨c, hc⟩ : ∃ c, c = keep ⟨id, kind, links, size, till, shut⟩ u := ⟨_, rfl⟩
  rw [← ha, ← hb, ← hc] at HR
  rw [← ha] at HA
  rw [← hb] at HB
  rw [← hc] at HC
  clear ha hb hc
  rw [as_] at HR HA HB HC ⊢
  have HX : Hid (Blk (w.alloc (.cells #[.int .i64 id, .int .i64 kind, .int .i64 links, .int .i64 size, .int .u64 (till : Nat), .bool shut] 26)) w.heap.size 26 (ndc id kind links size till shut)) := Blk.new w _ _
  have HW : Hid (Below w.heap.size w (w.alloc (.cells #[.int .i64 id, .int .i64 kind, .int .i64 links, .int .i64 size, .int .u64 (till : Nat), .bool shut] 26))) := below_new w _
  go_enter Try.func8, Try.ntmps8
  go_wp2_with fail
  refine (HR.out _).mono ?_
  rintro e w1 ⟨rfl, hb1⟩
  have HX1 := Lib.hid (HX.out.below hb1 HX.out.lt)
  have HW1 := Lib.hid (HW.out.trans (hb1.mono HW.out.size))
  clear HX HW hb1
  have c0 : w1.cell? ⟨w.heap.size, 0, none⟩ = some (.int .i64 id) := HX1.out.cell 0
  have c1 : w1.cell? ⟨w.heap.size, 1, none⟩ = some (.int .i64 kind) := HX1.out.cell 1
  have c2 : w1.cell? ⟨w.heap.size, 2, none⟩ = some (.int .i64 links) := HX1.out.cell 2
  have c3 : w1.cell? ⟨w.heap.size, 3, none⟩ = some (.int .i64 size) := HX1.out.cell 3
  have c4 : w1.cell? ⟨w.heap.size, 4, none⟩ = some (.int .u64 (till : Nat)) := HX1.out.cell 4
  have c5 : w1.cell? ⟨w.heap.size, 5, none⟩ = some (.bool shut) := HX1.out.cell 5
  go_wp2_with fail
  clear c0 c1 c2 c3 c4 c5
  refine (HA.out _).mono ?_
  rintro e w2 ⟨rfl, hb1⟩
  have HX2 := Lib.hid (HX1.out.below hb1 HX1.out.lt)
  have HW2 := Lib.hid (HW1.out.trans (hb1.mono HW1.out.size))
  clear HX1 HW1 hb1
  have c0 : w2.cell? ⟨w.heap.size, 0, none⟩ = some (.int .i64 id) := HX2.out.cell 0
  have c1 : w2.cell? ⟨w.heap.size, 1, none⟩ = some (.int .i64 kind) := HX2.out.cell 1
  have c2 : w2.cell? ⟨w.heap.size, 2, none⟩ = some (.int .i64 links) := HX2.out.cell 2
  have c3 : w2.cell? ⟨w.heap.size, 3, none⟩ = some (.int .i64 size) := HX2.out.cell 3
  have c4 : w2.cell? ⟨w.heap.size, 4, none⟩ = some (.int .u64 (till : Nat)) := HX2.out.cell 4
  have c5 : w2.cell? ⟨w.heap.size, 5, none⟩ = some (.bool shut) := HX2.out.cell 5
  go_wp2_with fail
  clear c0 c1 c2 c3 c4 c5
  refine (HB.out _).mono ?_
  rintro e w3 ⟨rfl, hb1⟩
  have HX3 := Lib.hid (HX2.out.below hb1 HX2.out.lt)
  have HW3 := Lib.hid (HW2.out.trans (hb1.mono HW2.out.size))
  clear HX2 HW2 hb1
  have c0 : w3.cell? ⟨w.heap.size, 0, none⟩ = some (.int .i64 id) := HX3.out.cell 0
  have c1 : w3.cell? ⟨w.heap.size, 1, none⟩ = some (.int .i64 kind) := HX3.out.cell 1
  have c2 : w3.cell? ⟨w.heap.size, 2, none⟩ = some (.int .i64 links) := HX3.out.cell 2
  have c3 : w3.cell? ⟨w.heap.size, 3, none⟩ = some (.int .i64 size) := HX3.out.cell 3
  have c4 : w3.cell? ⟨w.heap.size, 4, none⟩ = some (.int .u64 (till : Nat)) := HX3.out.cell 4
  have c5 : w3.cell? ⟨w.heap.size, 5, none⟩ = some (.bool shut) := HX3.out.cell 5
  go_wp2_with fail
  clear c0 c1 c2 c3 c4 c5
  refine (HC.out _).mono ?_
  rintro e w4 ⟨rfl, hb1⟩
  have HW4 := Lib.hid (HW3.out.trans (hb1.mono HW3.out.size))
  clear HX3 HW3 hb1
  go_wp2_with fail
  go_ret
  exact ⟨rfl, HW4.out⟩

set_option maxHeartbeats 2000000 in
set_option maxRecDepth 100000 in
theorem known_any (w : World) : Calls Try.prog 11 #[] w fun e w' => e = .returned (.bool true) ∧ Below w.heap.size w w' := by
  have HA := Lib.hid (fun w => remove_any ⟨1, 1, 1, 0, 5, true⟩ 4 w)
  have HB := Lib.hid (fun w => remove_any ⟨1, 1, 1, 0, 5, true⟩ 5 w)
  rw [as_, show remove ⟨1, 1, 1, 0, 5, true⟩ 4 = 28 from rfl] at HA
  rw [as_, show remove ⟨1, 1, 1, 0, 5, true⟩ 5 = 0 from rfl] at HB
  have HX : Hid (Blk (w.alloc (.cells #[.int .i64 1, .int .i64 1, .int .i64 1, .int .i64 0, .int .u64 5, .bool true] 26)) w.heap.size 26 (ndc 1 1 1 0 5 true)) := Blk.new w _ _
  have HW : Hid (Below w.heap.size w (w.alloc (.cells #[.int .i64 1, .int .i64 1, .int .i64 1, .int .i64 0, .int .u64 5, .bool true] 26))) := below_new w _
  go_enter Try.func11, Try.ntmps11
  go_wp2_with fail
  refine (HA.out _).mono ?_
  rintro e w2 ⟨rfl, hb1⟩
  have HX2 := Lib.hid (HX.out.below hb1 HX.out.lt)
  have HW2 := Lib.hid (HW.out.trans (hb1.mono HW.out.size))
  clear HX HW hb1
  have c0 : w2.cell? ⟨w.heap.size, 0, none⟩ = some (.int .i64 1) := HX2.out.cell 0
  have c1 : w2.cell? ⟨w.heap.size, 1, none⟩ = some (.int .i64 1) := HX2.out.cell 1
  have c2 : w2.cell? ⟨w.heap.size, 2, none⟩ = some (.int .i64 1) := HX2.out.cell 2
  have c3 : w2.cell? ⟨w.heap.size, 3, none⟩ = some (.int .i64 0) := HX2.out.cell 3
  have c4 : w2.cell? ⟨w.heap.size, 4, none⟩ = some (.int .u64 5) := HX2.out.cell 4
  have c5 : w2.cell? ⟨w.heap.size, 5, none⟩ = some (.bool true) := HX2.out.cell 5
  go_wp2_with fail
  clear c0 c1 c2 c3 c4 c5
  refine (HB.out _).mono ?_
  rintro e w3 ⟨rfl, hb1⟩
  have HW3 := Lib.hid (HW2.out.trans (hb1.mono HW2.out.size))
  clear HX2 HW2 hb1
  go_wp2_with fail
  go_ret
  exact ⟨rfl, HW3.out⟩
end Wo
end Go.Proofs.Ytpblhdpnmnfieaa
