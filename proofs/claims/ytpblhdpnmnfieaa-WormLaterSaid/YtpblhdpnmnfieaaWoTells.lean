/-
  OWN WORK. Law 12's WormTells, walked: what a node allows is what the document says.
-/
import Derived.Test.YtpblhdpnmnfieaaWoSame
import Derived.Test.YtpblhdpnmnfieaaBaCell
namespace Go.Proofs.Ytpblhdpnmnfieaa
open Go.RowKit
namespace Wo
set_option maxHeartbeats 4000000 in
set_option maxRecDepth 100000 in
theorem tells_any (n : Nd) (now u : Nat) (w : World) : Calls Try.prog 4 #[n.val, .int .u64 (now : Nat), .int .u64 (u : Nat)] w fun e w' => e = .returned (.bool true) ∧ Below w.heap.size w w' := by
  obtain ⟨id, kind, links, size, till, shut⟩ := n
  rw [as_]
  have HS := Lib.hid (fun w => same_any ⟨id, kind, links, size, till, shut⟩ now u w)
  have HT := Lib.hid (fun w => same_any ⟨id, 1, links, size, till, true⟩ now u w)
  have HU := Lib.hid (fun w => same_any ⟨id, 1, links, size, till, true⟩ (now % 20) (u % 20) w)
  have HK := Lib.hid (fun w => known_any w)
  rw [as_] at HS HT HU
  obtain ⟨n2, hn2⟩ : ∃ n2, n2 = now % 20 := ⟨_, rfl⟩
  have e1 : (now : Int) % 20 = (n2 : Int) := by omega
  obtain ⟨u2, hu2⟩ : ∃ u2, u2 = u % 20 := ⟨_, rfl⟩
  have e2 : (u : Int) % 20 = (u2 : Int) := by omega
  rw [← hn2, ← hu2] at HU
  clear hn2 hu2
  have hbx := below_new w (.cells #[.int .i64 id, .int .i64 kind, .int .i64 links, .int .i64 size, .int .u64 (till : Nat), .bool shut] 26)
  have hby := below_new (w.alloc (.cells #[.int .i64 id, .int .i64 kind, .int .i64 links, .int .i64 size, .int .u64 (till : Nat), .bool shut] 26)) (.cells #[.int .i64 id, .int .i64 1, .int .i64 links, .int .i64 size, .int .u64 (till : Nat), .bool true] 26)
  have HX0 : Hid (Blk ((w.alloc (.cells #[.int .i64 id, .int .i64 kind, .int .i64 links, .int .i64 size, .int .u64 (till : Nat), .bool shut] 26)).alloc (.cells #[.int .i64 id, .int .i64 1, .int .i64 links, .int .i64 size, .int .u64 (till : Nat), .bool true] 26)) w.heap.size 26 (ndc id kind links size till shut)) := (Blk.new w _ _).below hby (by rw [World.size_alloc]; omega)
  have hy0 : Blk ((w.alloc (.cells #[.int .i64 id, .int .i64 kind, .int .i64 links, .int .i64 size, .int .u64 (till : Nat), .bool shut] 26)).alloc (.cells #[.int .i64 id, .int .i64 1, .int .i64 links, .int .i64 size, .int .u64 (till : Nat), .bool true] 26)) (w.alloc (.cells #[.int .i64 id, .int .i64 kind, .int .i64 links, .int .i64 size, .int .u64 (till : Nat), .bool shut] 26)).heap.size 26 (ndc id 1 links size till true) := Blk.new _ _ _
  rw [World.size_alloc] at hy0
  have HY0 := Lib.hid hy0
  have HW0 := Lib.hid (hbx.trans (hby.mono hbx.size))
  clear hbx hby hy0
  go_enter Try.func4, Try.ntmps4
  go_wp2_with fail
  refine (HS.out _).mono ?_
  rintro e w1 ⟨rfl, hb⟩
  have HX1 := Lib.hid (HX0.out.below hb HX0.out.lt)
  have HY1 := Lib.hid (HY0.out.below hb HY0.out.lt)
  have HW1 := Lib.hid (HW0.out.trans (hb.mono HW0.out.size))
  clear HX0 HY0 HW0 hb
  have cX0 : w1.cell? ⟨w.heap.size, 0, none⟩ = some (.int .i64 id) := HX1.out.cell 0
  have cX1 : w1.cell? ⟨w.heap.size, 1, none⟩ = some (.int .i64 kind) := HX1.out.cell 1
  have cX2 : w1.cell? ⟨w.heap.size, 2, none⟩ = some (.int .i64 links) := HX1.out.cell 2
  have cX3 : w1.cell? ⟨w.heap.size, 3, none⟩ = some (.int .i64 size) := HX1.out.cell 3
  have cX4 : w1.cell? ⟨w.heap.size, 4, none⟩ = some (.int .u64 (till : Nat)) := HX1.out.cell 4
  have cX5 : w1.cell? ⟨w.heap.size, 5, none⟩ = some (.bool shut) := HX1.out.cell 5
  have cY0 : w1.cell? ⟨w.heap.size + 1, 0, none⟩ = some (.int .i64 id) := HY1.out.cell 0
  have cY1 : w1.cell? ⟨w.heap.size + 1, 1, none⟩ = some (.int .i64 1) := HY1.out.cell 1
  have cY2 : w1.cell? ⟨w.heap.size + 1, 2, none⟩ = some (.int .i64 links) := HY1.out.cell 2
  have cY3 : w1.cell? ⟨w.heap.size + 1, 3, none⟩ = some (.int .i64 size) := HY1.out.cell 3
  have cY4 : w1.cell? ⟨w.heap.size + 1, 4, none⟩ = some (.int .u64 (till : Nat)) := HY1.out.cell 4
  have cY5 : w1.cell? ⟨w.heap.size + 1, 5, none⟩ = some (.bool true) := HY1.out.cell 5
  go_wp2_with fail
  clear cX0 cX1 cX2 cX3 cX4 cX5 cY0 cY1 cY2 cY3 cY4 cY5
  refine (HT.out _).mono ?_
  rintro e w2 ⟨rfl, hb⟩
  have HX2 := Lib.hid (HX1.out.below hb HX1.out.lt)
  have HY2 := Lib.hid (HY1.out.below hb HY1.out.lt)
  have HW2 := Lib.hid (HW1.out.trans (hb.mono HW1.out.size))
  clear HX1 HY1 HW1 hb
  have cX0 : w2.cell? ⟨w.heap.size, 0, none⟩ = some (.int .i64 id) := HX2.out.cell 0
  have cX1 : w2.cell? ⟨w.heap.size, 1, none⟩ = some (.int .i64 kind) := HX2.out.cell 1
  have cX2 : w2.cell? ⟨w.heap.size, 2, none⟩ = some (.int .i64 links) := HX2.out.cell 2
  have cX3 : w2.cell? ⟨w.heap.size, 3, none⟩ = some (.int .i64 size) := HX2.out.cell 3
  have cX4 : w2.cell? ⟨w.heap.size, 4, none⟩ = some (.int .u64 (till : Nat)) := HX2.out.cell 4
  have cX5 : w2.cell? ⟨w.heap.size, 5, none⟩ = some (.bool shut) := HX2.out.cell 5
  have cY0 : w2.cell? ⟨w.heap.size + 1, 0, none⟩ = some (.int .i64 id) := HY2.out.cell 0
  have cY1 : w2.cell? ⟨w.heap.size + 1, 1, none⟩ = some (.int .i64 1) := HY2.out.cell 1
  have cY2 : w2.cell? ⟨w.heap.size + 1, 2, none⟩ = some (.int .i64 links) := HY2.out.cell 2
  have cY3 : w2.cell? ⟨w.heap.size + 1, 3, none⟩ = some (.int .i64 size) := HY2.out.cell 3
  have cY4 : w2.cell? ⟨w.heap.size + 1, 4, none⟩ = some (.int .u64 (till : Nat)) := HY2.out.cell 4
  have cY5 : w2.cell? ⟨w.heap.size + 1, 5, none⟩ = some (.bool true) := HY2.out.cell 5
  go_wp2_with fail
  clear cX0 cX1 cX2 cX3 cX4 cX5 cY0 cY1 cY2 cY3 cY4 cY5
  refine (HU.out _).mono ?_
  rintro e w3 ⟨rfl, hb⟩
  have HX3 := Lib.hid (HX2.out.below hb HX2.out.lt)
  have HY3 := Lib.hid (HY2.out.below hb HY2.out.lt)
  have HW3 := Lib.hid (HW2.out.trans (hb.mono HW2.out.size))
  clear HX2 HY2 HW2 hb
  go_wp2_with fail
  refine (HK.out _).mono ?_
  rintro e w4 ⟨rfl, hb⟩
  have HX4 := Lib.hid (HX3.out.below hb HX3.out.lt)
  have HY4 := Lib.hid (HY3.out.below hb HY3.out.lt)
  have HW4 := Lib.hid (HW3.out.trans (hb.mono HW3.out.size))
  clear HX3 HY3 HW3 hb
  go_wp2_with fail
  go_ret
  exact ⟨rfl, HW4.out⟩
end Wo
end Go.Proofs.Ytpblhdpnmnfieaa
