/-
  OWN WORK. Law 10's read, by its contract: any bytes are read as the document says.
-/
import Derived.Test.YtopcipaaffpiaaaNoAs
namespace Go.Proofs.Ytopcipaaffpiaaa
open Go.RowKit Rc

set_option maxHeartbeats 1000000 in
set_option maxRecDepth 100000 in
theorem read_any (R : RSaid codecFns) (hM : RMake R) (w : World) (A : Option Addr) (L : List UInt8) (cap : Nat) (hr : Rd w A L) (hc : L.length ≤ cap) (hl : L.length ≤ 1000000) :
    Calls Try.prog 9 #[.slice A L.length cap] w fun e w' => e = .returned (.bool true) ∧ Below w.heap.size w w' := by
  obtain ⟨n, f, hn⟩ := pair_is (ndDec L)
  obtain ⟨id, kind, links, size, till, shut⟩ := n
  have HR := Lib.hid hr
  have HC := Lib.hid hc
  have HL := Lib.hid hl
  have HN := Lib.hid hn
  clear hr hc hl hn
  go_enter Try.func9, Try.ntmps9
  go_wp2_with fail
  refine (dec_as R hM _ A L cap HR.out HC.out (Nat.le_trans HL.out (by decide)) HN.out).mono ?_
  rintro e w1 ⟨rfl, HB1⟩
  have HR1 := Lib.hid (HR.out.below HB1.out)
  clear HR
  have HG1 : Hid (Blk (w1.alloc (.cells #[.int .i64 0, .int .i64 0, .int .i64 0, .int .i64 0, .int .u64 0, .bool false] 25)) w1.heap.size 25 [.int .i64 0, .int .i64 0, .int .i64 0, .int .i64 0, .int .u64 0, .bool false]) := Blk.new w1 _ _
  go_wp2_with (refine wpList_store_row rfl 25 (.tmp 3) (.tmp 10) rfl w1.heap.size #[.int .i64 id, .int .i64 kind, .int .i64 links, .int .i64 size, .int .u64 (till : Nat), .bool shut] rfl rfl 25 #[.int .i64 0, .int .i64 0, .int .i64 0, .int .i64 0, .int .u64 0, .bool false] HG1.out rfl rfl rfl ?_)
  clear HG1
  have HB2 : Hid (Below w.heap.size w (w1.alloc (.cells #[.int .i64 id, .int .i64 kind, .int .i64 links, .int .i64 size, .int .u64 (till : Nat), .bool shut] 25))) := HB1.out.trans ((below_new w1 _).mono HB1.out.size)
  have HX2 : Hid (Blk (w1.alloc (.cells #[.int .i64 id, .int .i64 kind, .int .i64 links, .int .i64 size, .int .u64 (till : Nat), .bool shut] 25)) w1.heap.size 25 [.int .i64 id, .int .i64 kind, .int .i64 links, .int .i64 size, .int .u64 (till : Nat), .bool shut]) := Blk.new w1 _ _
  have HR2 := Lib.hid (HR1.out.below (below_new w1 (.cells #[.int .i64 id, .int .i64 kind, .int .i64 links, .int .i64 size, .int .u64 (till : Nat), .bool shut] 25)))
  clear HR1 HB1
  refine (refDec_as _ A L cap HR2.out HC.out HL.out HN.out).mono ?_
  rintro e w3 ⟨rfl, HB3⟩
  have HX3 := Lib.hid (HX2.out.below HB3.out HX2.out.lt)
  have HB4 := Lib.hid (HB2.out.trans (HB3.out.mono HB2.out.size))
  have HNE : Hid (w1.heap.size ≠ w3.heap.size) := Nat.ne_of_lt HX3.out.lt
  clear HX2 HB2 HB3 HR2
  have HG1 : Hid (Blk (w3.alloc (.cells #[.int .i64 0, .int .i64 0, .int .i64 0, .int .i64 0, .int .u64 0, .bool false] 25)) w3.heap.size 25 [.int .i64 0, .int .i64 0, .int .i64 0, .int .i64 0, .int .u64 0, .bool false]) := Blk.new w3 _ _
  have c0 : w3.cell? ⟨w1.heap.size, 0, none⟩ = some (.int .i64 id) := HX3.out.cell 0
  have c1 : w3.cell? ⟨w1.heap.size, 1, none⟩ = some (.int .i64 kind) := HX3.out.cell 1
  have c2 : w3.cell? ⟨w1.heap.size, 2, none⟩ = some (.int .i64 links) := HX3.out.cell 2
  have c3 : w3.cell? ⟨w1.heap.size, 3, none⟩ = some (.int .i64 size) := HX3.out.cell 3
  have c4 : w3.cell? ⟨w1.heap.size, 4, none⟩ = some (.int .u64 (till : Nat)) := HX3.out.cell 4
  have c5 : w3.cell? ⟨w1.heap.size, 5, none⟩ = some (.bool shut) := HX3.out.cell 5
  have hlt : w1.heap.size < w3.heap.size := HX3.out.lt
  have HF : Hid (Below w.heap.size w (w3.alloc (.cells #[.int .i64 id, .int .i64 kind, .int .i64 links, .int .i64 size, .int .u64 (till : Nat), .bool shut] 25))) := HB4.out.trans ((below_new w3 _).mono HB4.out.size)
  go_wp2_with (refine wpList_store_row rfl 25 (.tmp 5) (.tmp 15) rfl w3.heap.size #[.int .i64 id, .int .i64 kind, .int .i64 links, .int .i64 size, .int .u64 (till : Nat), .bool shut] rfl rfl 25 #[.int .i64 0, .int .i64 0, .int .i64 0, .int .i64 0, .int .u64 0, .bool false] HG1.out rfl rfl rfl ?_)
  go_ret
  exact ⟨rfl, HF.out⟩
end Go.Proofs.Ytopcipaaffpiaaa
