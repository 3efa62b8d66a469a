/-
  OWN WORK. OpAsked
-/
import Derived.Test.YtmcbpgbiephllaaK05
import Derived.Test.YtmcbpgbiephllaaK04
import Derived.Test.YtmcbpgbiephllaaK01

namespace Go.Proofs.Ytmcbpgbiephllaa
open Go.RowKit Rc
open St (Opn)
namespace Op
theorem below_row9 {w0 w : World} {B g : Nat} (h : Below B w0 w) (hg : B ≤ g) (x0 x1 x2 x3 x4 x5 x6 x7 x8 : Value) : Below B w0 (((((((((w.setCell ⟨g, 0, none⟩ x0).setCell ⟨g, 1, none⟩ x1).setCell ⟨g, 2, none⟩ x2).setCell ⟨g, 3, none⟩ x3).setCell ⟨g, 4, none⟩ x4).setCell ⟨g, 5, none⟩ x5).setCell ⟨g, 6, none⟩ x6).setCell ⟨g, 7, none⟩ x7).setCell ⟨g, 8, none⟩ x8) :=
  below_set1 (below_set1 (below_set1 (below_set1 (below_set1 (below_set1 (below_set1 (below_set1 (below_set1 h hg 0 x0) hg 1 x1) hg 2 x2) hg 3 x3) hg 4 x4) hg 5 x5) hg 6 x6) hg 7 x7) hg 8 x8
theorem Blk.drew {w : World} {g : Nat} {t : TypeId} {cs : List Value} (h : Blk w g t cs) : Blk w.drew g t cs := h
theorem below_drewO {B : Nat} {w w' : World} (h : Below B w w') : Below B w w'.drew := ⟨h.os, h.tape, h.output, h.size, h.block⟩
set_option maxHeartbeats 4000000 in
set_option maxRecDepth 100000 in
theorem r_hasPath (k : Int) (hk : Kd k) (w : World) : Calls Try.prog 30 #[.int .i64 k] w fun e w' => e = .returned (.bool (hasPath k)) ∧ w' = w := by
  rcases kd_cases hk with rfl | rfl | rfl | rfl | rfl | rfl | rfl | rfl | rfl | rfl | rfl | rfl | rfl | rfl | rfl | rfl | rfl
  all_goals
    clear hk
    go_enter Try.func30, Try.ntmps30
    go_wp2_with fail
    go_ret
    exact ⟨rfl, rfl⟩
set_option maxHeartbeats 4000000 in
set_option maxRecDepth 100000 in
theorem r_hasTo (k : Int) (hk : Kd k) (w : World) : Calls Try.prog 32 #[.int .i64 k] w fun e w' => e = .returned (.bool (hasTo k)) ∧ w' = w := by
  rcases kd_cases hk with rfl | rfl | rfl | rfl | rfl | rfl | rfl | rfl | rfl | rfl | rfl | rfl | rfl | rfl | rfl | rfl | rfl
  all_goals
    clear hk
    go_enter Try.func32, Try.ntmps32
    go_wp2_with fail
    go_ret
    exact ⟨rfl, rfl⟩
set_option maxHeartbeats 4000000 in
set_option maxRecDepth 100000 in
theorem r_hasFd (k : Int) (hk : Kd k) (w : World) : Calls Try.prog 33 #[.int .i64 k] w fun e w' => e = .returned (.bool (hasFd k)) ∧ w' = w := by
  rcases kd_cases hk with rfl | rfl | rfl | rfl | rfl | rfl | rfl | rfl | rfl | rfl | rfl | rfl | rfl | rfl | rfl | rfl | rfl
  all_goals
    clear hk
    go_enter Try.func33, Try.ntmps33
    go_wp2_with fail
    go_ret
    exact ⟨rfl, rfl⟩
set_option maxHeartbeats 4000000 in
set_option maxRecDepth 100000 in
theorem r_hasTill (k : Int) (hk : Kd k) (w : World) : Calls Try.prog 35 #[.int .i64 k] w fun e w' => e = .returned (.bool (hasTill k)) ∧ w' = w := by
  rcases kd_cases hk with rfl | rfl | rfl | rfl | rfl | rfl | rfl | rfl | rfl | rfl | rfl | rfl | rfl | rfl | rfl | rfl | rfl
  all_goals
    clear hk
    go_enter Try.func35, Try.ntmps35
    go_wp2_with fail
    go_ret
    exact ⟨rfl, rfl⟩
set_option maxHeartbeats 4000000 in
set_option maxRecDepth 100000 in
theorem r_hasSnap (k : Int) (hk : Kd k) (w : World) : Calls Try.prog 37 #[.int .i64 k] w fun e w' => e = .returned (.bool (hasSnap k)) ∧ w' = w := by
  rcases kd_cases hk with rfl | rfl | rfl | rfl | rfl | rfl | rfl | rfl | rfl | rfl | rfl | rfl | rfl | rfl | rfl | rfl | rfl
  all_goals
    clear hk
    go_enter Try.func37, Try.ntmps37
    go_wp2_with fail
    go_ret
    exact ⟨rfl, rfl⟩
set_option maxHeartbeats 4000000 in
set_option maxRecDepth 100000 in
theorem asked_1 (path dest : List UInt8) (fd at_ n : Int) (till : Nat) (snap : Int) (data : List UInt8) (A : Option Addr) (c : Nat) (w : World) :
    Calls Try.prog 24 #[.agg #[.int .i64 1, .string (strOf path), .string (strOf dest), .int .i64 fd, .int .i64 at_, .int .i64 n, .int .u64 (till : Nat), .int .i64 snap, .slice A data.length c]] w fun e w' => e = .returned (.agg #[.int .i64 1, .string (strOf path), .string ⟨#[]⟩, .int .i64 0, .int .i64 0, .int .i64 0, .int .u64 0, .int .i64 0, .slice none 0 0]) ∧ Below w.heap.size w w' := by
  obtain ⟨WA, hWA⟩ : ∃ W, W = w.alloc (.cells #[.int .i64 1, .string (strOf path), .string (strOf dest), .int .i64 fd, .int .i64 at_, .int .i64 n, .int .u64 (till : Nat), .int .i64 snap, .slice A data.length c] 25) := ⟨_, rfl⟩
  obtain ⟨WR, hWR⟩ : ∃ W, W = WA.alloc (.cells #[.int .i64 0, .string ⟨#[]⟩, .string ⟨#[]⟩, .int .i64 0, .int .i64 0, .int .i64 0, .int .u64 0, .int .i64 0, .slice none 0 0] 25) := ⟨_, rfl⟩
  obtain ⟨WX, hWX⟩ : ∃ W, W = WR.alloc (.cells #[.int .i64 1, .string ⟨#[]⟩, .string ⟨#[]⟩, .int .i64 0, .int .i64 0, .int .i64 0, .int .u64 0, .int .i64 0, .slice none 0 0] 25) := ⟨_, rfl⟩
  obtain ⟨g, hg⟩ : ∃ x, x = w.heap.size := ⟨_, rfl⟩
  have hzA : WA.heap.size = g + 1 := by rw [hWA, World.size_alloc, hg]
  have hzR : WR.heap.size = g + 2 := by rw [hWR, World.size_alloc, hzA]
  have hA : Blk WA g 25 [.int .i64 1, .string (strOf path), .string (strOf dest), .int .i64 fd, .int .i64 at_, .int .i64 n, .int .u64 (till : Nat), .int .i64 snap, .slice A data.length c] := by rw [hWA, hg]; exact Blk.new w _ _
  have hR : Blk WR (g + 1) 25 [.int .i64 0, .string ⟨#[]⟩, .string ⟨#[]⟩, .int .i64 0, .int .i64 0, .int .i64 0, .int .u64 0, .int .i64 0, .slice none 0 0] := by rw [hWR, ← hzA]; exact Blk.new WA _ _
  have hb2 : Below WA.heap.size WA WR := by rw [hWR]; exact below_new WA _
  have hb3 : Below WR.heap.size WR WX := by rw [hWX]; exact below_new WR _
  have HA : Hid (Blk WX g 25 [.int .i64 1, .string (strOf path), .string (strOf dest), .int .i64 fd, .int .i64 at_, .int .i64 n, .int .u64 (till : Nat), .int .i64 snap, .slice A data.length c]) := (hA.below hb2 hA.lt).below hb3 (hA.below hb2 hA.lt).lt
  have HR : Hid (Blk WX (g + 1) 25 [.int .i64 0, .string ⟨#[]⟩, .string ⟨#[]⟩, .int .i64 0, .int .i64 0, .int .i64 0, .int .u64 0, .int .i64 0, .slice none 0 0]) := hR.below hb3 hR.lt
  have HX0 : Hid (Blk WX (g + 2) 25 [.int .i64 1, .string ⟨#[]⟩, .string ⟨#[]⟩, .int .i64 0, .int .i64 0, .int .i64 0, .int .u64 0, .int .i64 0, .slice none 0 0]) := by show Blk _ _ _ _; rw [hWX, ← hzR]; exact Blk.new WR _ _
  have HB : Hid (Below w.heap.size w WX) := by
    have hb1 : Below w.heap.size w WA := by rw [hWA]; exact below_new w _
    exact (hb1.trans (hb2.mono hb1.size)).trans (hb3.mono (Nat.le_trans hb1.size hb2.size))
  have HGG : Hid (w.heap.size ≤ g) := Nat.le_of_eq hg.symm
  clear hA hR hb2 hb3 hzA hzR
  go_enter Try.func24, Try.ntmps24
  go_upto_region 2 with (fail)
  rw [← hWA, ← hWR, ← hWX, ← hg]
  try rw [show g + 1 + 1 = g + 2 from rfl]
  clear hWA hWR hWX hg
  have hkd : Kd 1 := by decide
  have HKD := Lib.hid hkd
  clear hkd
  have a0 := HA.out.cell 0
  go_wp2_with fail
  refine (r_hasPath 1 HKD.out _).mono ?_
  rintro e wq ⟨rfl, hq⟩
  rw [hq]
  clear hq wq
  rw [show hasPath 1 = true from rfl]
  have b1 := HA.out.cell 1
  have x1 := HX0.out.cell 1
  have f1 := HX0.out.frozen 1
  obtain ⟨W1, hW⟩ : ∃ W, W = (WX.setCell ⟨g + 2, 1, none⟩ (.string (strOf path))) := ⟨_, rfl⟩
  have HX1 : Hid (Blk W1 (g + 2) 25 [.int .i64 1, .string (strOf path), .string ⟨#[]⟩, .int .i64 0, .int .i64 0, .int .i64 0, .int .u64 0, .int .i64 0, .slice none 0 0]) := by show Blk _ _ _ _; rw [hW]; exact (HX0.out.set_ 1 (.string (strOf path)))
  have HA1 : Hid (Blk W1 g 25 [.int .i64 1, .string (strOf path), .string (strOf dest), .int .i64 fd, .int .i64 at_, .int .i64 n, .int .u64 (till : Nat), .int .i64 snap, .slice A data.length c]) := by show Blk _ _ _ _; rw [hW]; exact (HA.out.far (by show g ≠ g + 2; omega) _)
  have HR1 : Hid (Blk W1 (g + 1) 25 [.int .i64 0, .string ⟨#[]⟩, .string ⟨#[]⟩, .int .i64 0, .int .i64 0, .int .i64 0, .int .u64 0, .int .i64 0, .slice none 0 0]) := by show Blk _ _ _ _; rw [hW]; exact (HR.out.far (by show g + 1 ≠ g + 2; omega) _)
  have HB1 : Hid (Below w.heap.size w W1) := by show Below _ _ _; rw [hW]; exact (below_set1 HB.out (Nat.le_trans HGG.out (by omega)) 1 (.string (strOf path)))
  go_upto_region 4 with (fail)
  rw [← hW]
  clear hW HX0 HA HR HB a0 b1 x1 f1
  have a0 := HA1.out.cell 0
  go_wp2_with fail
  refine (r_hasTo 1 HKD.out _).mono ?_
  rintro e wq ⟨rfl, hq⟩
  rw [hq]
  clear hq wq
  rw [show hasTo 1 = false from rfl]
  go_upto_region 6 with (fail)
  clear a0
  have a0 := HA1.out.cell 0
  go_wp2_with fail
  refine (r_hasFd 1 HKD.out _).mono ?_
  rintro e wq ⟨rfl, hq⟩
  rw [hq]
  clear hq wq
  rw [show hasFd 1 = false from rfl]
  go_upto_region 8 with (fail)
  clear a0
  have a0 := HA1.out.cell 0
  go_upto_region 10 with (fail)
  clear a0
  have a0 := HA1.out.cell 0
  go_wp2_with fail
  refine (r_hasTill 1 HKD.out _).mono ?_
  rintro e wq ⟨rfl, hq⟩
  rw [hq]
  clear hq wq
  rw [show hasTill 1 = false from rfl]
  go_upto_region 12 with (fail)
  clear a0
  have a0 := HA1.out.cell 0
  go_wp2_with fail
  refine (r_hasSnap 1 HKD.out _).mono ?_
  rintro e wq ⟨rfl, hq⟩
  rw [hq]
  clear hq wq
  rw [show hasSnap 1 = false from rfl]
  go_upto_region 14 with (fail)
  clear a0
  have a0 := HA1.out.cell 0
  go_upto_region 16 with (fail)
  clear a0
  have x0 := HX1.out.cell 0
  have r0 := HR1.out.cell 0
  have q0 := HR1.out.frozen 0
  have x1 := HX1.out.cell 1
  have r1 := HR1.out.cell 1
  have q1 := HR1.out.frozen 1
  have x2 := HX1.out.cell 2
  have r2 := HR1.out.cell 2
  have q2 := HR1.out.frozen 2
  have x3 := HX1.out.cell 3
  have r3 := HR1.out.cell 3
  have q3 := HR1.out.frozen 3
  have x4 := HX1.out.cell 4
  have r4 := HR1.out.cell 4
  have q4 := HR1.out.frozen 4
  have x5 := HX1.out.cell 5
  have r5 := HR1.out.cell 5
  have q5 := HR1.out.frozen 5
  have x6 := HX1.out.cell 6
  have r6 := HR1.out.cell 6
  have q6 := HR1.out.frozen 6
  have x7 := HX1.out.cell 7
  have r7 := HR1.out.cell 7
  have q7 := HR1.out.frozen 7
  have x8 := HX1.out.cell 8
  have r8 := HR1.out.cell 8
  have q8 := HR1.out.frozen 8
  go_wp2_with fail
  refine bodyPost_ret (results_blk1 rfl _ _ (g + 1) 25 _ _ rfl (set9_blk HR1.out _ _ _ _ _ _ _ _ _) rfl rfl rfl) rfl ⟨rfl, ?_⟩
  exact below_row9 HB1.out (Nat.le_trans HGG.out (by omega)) _ _ _ _ _ _ _ _ _
set_option maxHeartbeats 4000000 in
set_option maxRecDepth 100000 in
theorem asked_2 (path dest : List UInt8) (fd at_ n : Int) (till : Nat) (snap : Int) (data : List UInt8) (A : Option Addr) (c : Nat) (w : World) :
    Calls Try.prog 24 #[.agg #[.int .i64 2, .string (strOf path), .string (strOf dest), .int .i64 fd, .int .i64 at_, .int .i64 n, .int .u64 (till : Nat), .int .i64 snap, .slice A data.length c]] w fun e w' => e = .returned (.agg #[.int .i64 2, .string (strOf path), .string ⟨#[]⟩, .int .i64 0, .int .i64 0, .int .i64 0, .int .u64 0, .int .i64 0, .slice none 0 0]) ∧ Below w.heap.size w w' := by
  obtain ⟨WA, hWA⟩ : ∃ W, W = w.alloc (.cells #[.int .i64 2, .string (strOf path), .string (strOf dest), .int .i64 fd, .int .i64 at_, .int .i64 n, .int .u64 (till : Nat), .int .i64 snap, .slice A data.length c] 25) := ⟨_, rfl⟩
  obtain ⟨WR, hWR⟩ : ∃ W, W = WA.alloc (.cells #[.int .i64 0, .string ⟨#[]⟩, .string ⟨#[]⟩, .int .i64 0, .int .i64 0, .int .i64 0, .int .u64 0, .int .i64 0, .slice none 0 0] 25) := ⟨_, rfl⟩
  obtain ⟨WX, hWX⟩ : ∃ W, W = WR.alloc (.cells #[.int .i64 2, .string ⟨#[]⟩, .string ⟨#[]⟩, .int .i64 0, .int .i64 0, .int .i64 0, .int .u64 0, .int .i64 0, .slice none 0 0] 25) := ⟨_, rfl⟩
  obtain ⟨g, hg⟩ : ∃ x, x = w.heap.size := ⟨_, rfl⟩
  have hzA : WA.heap.size = g + 1 := by rw [hWA, World.size_alloc, hg]
  have hzR : WR.heap.size = g + 2 := by rw [hWR, World.size_alloc, hzA]
  have hA : Blk WA g 25 [.int .i64 2, .string (strOf path), .string (strOf dest), .int .i64 fd, .int .i64 at_, .int .i64 n, .int .u64 (till : Nat), .int .i64 snap, .slice A data.length c] := by rw [hWA, hg]; exact Blk.new w _ _
  have hR : Blk WR (g + 1) 25 [.int .i64 0, .string ⟨#[]⟩, .string ⟨#[]⟩, .int .i64 0, .int .i64 0, .int .i64 0, .int .u64 0, .int .i64 0, .slice none 0 0] := by rw [hWR, ← hzA]; exact Blk.new WA _ _
  have hb2 : Below WA.heap.size WA WR := by rw [hWR]; exact below_new WA _
  have hb3 : Below WR.heap.size WR WX := by rw [hWX]; exact below_new WR _
  have HA : Hid (Blk WX g 25 [.int .i64 2, .string (strOf path), .string (strOf dest), .int .i64 fd, .int .i64 at_, .int .i64 n, .int .u64 (till : Nat), .int .i64 snap, .slice A data.length c]) := (hA.below hb2 hA.lt).below hb3 (hA.below hb2 hA.lt).lt
  have HR : Hid (Blk WX (g + 1) 25 [.int .i64 0, .string ⟨#[]⟩, .string ⟨#[]⟩, .int .i64 0, .int .i64 0, .int .i64 0, .int .u64 0, .int .i64 0, .slice none 0 0]) := hR.below hb3 hR.lt
  have HX0 : Hid (Blk WX (g + 2) 25 [.int .i64 2, .string ⟨#[]⟩, .string ⟨#[]⟩, .int .i64 0, .int .i64 0, .int .i64 0, .int .u64 0, .int .i64 0, .slice none 0 0]) := by show Blk _ _ _ _; rw [hWX, ← hzR]; exact Blk.new WR _ _
  have HB : Hid (Below w.heap.size w WX) := by
    have hb1 : Below w.heap.size w WA := by rw [hWA]; exact below_new w _
    exact (hb1.trans (hb2.mono hb1.size)).trans (hb3.mono (Nat.le_trans hb1.size hb2.size))
  have HGG : Hid (w.heap.size ≤ g) := Nat.le_of_eq hg.symm
  clear hA hR hb2 hb3 hzA hzR
  go_enter Try.func24, Try.ntmps24
  go_upto_region 2 with (fail)
  rw [← hWA, ← hWR, ← hWX, ← hg]
  try rw [show g + 1 + 1 = g + 2 from rfl]
  clear hWA hWR hWX hg
  have hkd : Kd 2 := by decide
  have HKD := Lib.hid hkd
  clear hkd
  have a0 := HA.out.cell 0
  go_wp2_with fail
  refine (r_hasPath 2 HKD.out _).mono ?_
  rintro e wq ⟨rfl, hq⟩
  rw [hq]
  clear hq wq
  rw [show hasPath 2 = true from rfl]
  have b1 := HA.out.cell 1
  have x1 := HX0.out.cell 1
  have f1 := HX0.out.frozen 1
  obtain ⟨W1, hW⟩ : ∃ W, W = (WX.setCell ⟨g + 2, 1, none⟩ (.string (strOf path))) := ⟨_, rfl⟩
  have HX1 : Hid (Blk W1 (g + 2) 25 [.int .i64 2, .string (strOf path), .string ⟨#[]⟩, .int .i64 0, .int .i64 0, .int .i64 0, .int .u64 0, .int .i64 0, .slice none 0 0]) := by show Blk _ _ _ _; rw [hW]; exact (HX0.out.set_ 1 (.string (strOf path)))
  have HA1 : Hid (Blk W1 g 25 [.int .i64 2, .string (strOf path), .string (strOf dest), .int .i64 fd, .int .i64 at_, .int .i64 n, .int .u64 (till : Nat), .int .i64 snap, .slice A data.length c]) := by show Blk _ _ _ _; rw [hW]; exact (HA.out.far (by show g ≠ g + 2; omega) _)
  have HR1 : Hid (Blk W1 (g + 1) 25 [.int .i64 0, .string ⟨#[]⟩, .string ⟨#[]⟩, .int .i64 0, .int .i64 0, .int .i64 0, .int .u64 0, .int .i64 0, .slice none 0 0]) := by show Blk _ _ _ _; rw [hW]; exact (HR.out.far (by show g + 1 ≠ g + 2; omega) _)
  have HB1 : Hid (Below w.heap.size w W1) := by show Below _ _ _; rw [hW]; exact (below_set1 HB.out (Nat.le_trans HGG.out (by omega)) 1 (.string (strOf path)))
  go_upto_region 4 with (fail)
  rw [← hW]
  clear hW HX0 HA HR HB a0 b1 x1 f1
  have a0 := HA1.out.cell 0
  go_wp2_with fail
  refine (r_hasTo 2 HKD.out _).mono ?_
  rintro e wq ⟨rfl, hq⟩
  rw [hq]
  clear hq wq
  rw [show hasTo 2 = false from rfl]
  go_upto_region 6 with (fail)
  clear a0
  have a0 := HA1.out.cell 0
  go_wp2_with fail
  refine (r_hasFd 2 HKD.out _).mono ?_
  rintro e wq ⟨rfl, hq⟩
  rw [hq]
  clear hq wq
  rw [show hasFd 2 = false from rfl]
  go_upto_region 8 with (fail)
  clear a0
  have a0 := HA1.out.cell 0
  go_upto_region 10 with (fail)
  clear a0
  have a0 := HA1.out.cell 0
  go_wp2_with fail
  refine (r_hasTill 2 HKD.out _).mono ?_
  rintro e wq ⟨rfl, hq⟩
  rw [hq]
  clear hq wq
  rw [show hasTill 2 = false from rfl]
  go_upto_region 12 with (fail)
  clear a0
  have a0 := HA1.out.cell 0
  go_wp2_with fail
  refine (r_hasSnap 2 HKD.out _).mono ?_
  rintro e wq ⟨rfl, hq⟩
  rw [hq]
  clear hq wq
  rw [show hasSnap 2 = false from rfl]
  go_upto_region 14 with (fail)
  clear a0
  have a0 := HA1.out.cell 0
  go_upto_region 16 with (fail)
  clear a0
  have x0 := HX1.out.cell 0
  have r0 := HR1.out.cell 0
  have q0 := HR1.out.frozen 0
  have x1 := HX1.out.cell 1
  have r1 := HR1.out.cell 1
  have q1 := HR1.out.frozen 1
  have x2 := HX1.out.cell 2
  have r2 := HR1.out.cell 2
  have q2 := HR1.out.frozen 2
  have x3 := HX1.out.cell 3
  have r3 := HR1.out.cell 3
  have q3 := HR1.out.frozen 3
  have x4 := HX1.out.cell 4
  have r4 := HR1.out.cell 4
  have q4 := HR1.out.frozen 4
  have x5 := HX1.out.cell 5
  have r5 := HR1.out.cell 5
  have q5 := HR1.out.frozen 5
  have x6 := HX1.out.cell 6
  have r6 := HR1.out.cell 6
  have q6 := HR1.out.frozen 6
  have x7 := HX1.out.cell 7
  have r7 := HR1.out.cell 7
  have q7 := HR1.out.frozen 7
  have x8 := HX1.out.cell 8
  have r8 := HR1.out.cell 8
  have q8 := HR1.out.frozen 8
  go_wp2_with fail
  refine bodyPost_ret (results_blk1 rfl _ _ (g + 1) 25 _ _ rfl (set9_blk HR1.out _ _ _ _ _ _ _ _ _) rfl rfl rfl) rfl ⟨rfl, ?_⟩
  exact below_row9 HB1.out (Nat.le_trans HGG.out (by omega)) _ _ _ _ _ _ _ _ _
set_option maxHeartbeats 4000000 in
set_option maxRecDepth 100000 in
theorem asked_3 (path dest : List UInt8) (fd at_ n : Int) (till : Nat) (snap : Int) (data : List UInt8) (A : Option Addr) (c : Nat) (w : World) :
    Calls Try.prog 24 #[.agg #[.int .i64 3, .string (strOf path), .string (strOf dest), .int .i64 fd, .int .i64 at_, .int .i64 n, .int .u64 (till : Nat), .int .i64 snap, .slice A data.length c]] w fun e w' => e = .returned (.agg #[.int .i64 3, .string (strOf path), .string ⟨#[]⟩, .int .i64 0, .int .i64 0, .int .i64 0, .int .u64 0, .int .i64 snap, .slice none 0 0]) ∧ Below w.heap.size w w' := by
  obtain ⟨WA, hWA⟩ : ∃ W, W = w.alloc (.cells #[.int .i64 3, .string (strOf path), .string (strOf dest), .int .i64 fd, .int .i64 at_, .int .i64 n, .int .u64 (till : Nat), .int .i64 snap, .slice A data.length c] 25) := ⟨_, rfl⟩
  obtain ⟨WR, hWR⟩ : ∃ W, W = WA.alloc (.cells #[.int .i64 0, .string ⟨#[]⟩, .string ⟨#[]⟩, .int .i64 0, .int .i64 0, .int .i64 0, .int .u64 0, .int .i64 0, .slice none 0 0] 25) := ⟨_, rfl⟩
  obtain ⟨WX, hWX⟩ : ∃ W, W = WR.alloc (.cells #[.int .i64 3, .string ⟨#[]⟩, .string ⟨#[]⟩, .int .i64 0, .int .i64 0, .int .i64 0, .int .u64 0, .int .i64 0, .slice none 0 0] 25) := ⟨_, rfl⟩
  obtain ⟨g, hg⟩ : ∃ x, x = w.heap.size := ⟨_, rfl⟩
  have hzA : WA.heap.size = g + 1 := by rw [hWA, World.size_alloc, hg]
  have hzR : WR.heap.size = g + 2 := by rw [hWR, World.size_alloc, hzA]
  have hA : Blk WA g 25 [.int .i64 3, .string (strOf path), .string (strOf dest), .int .i64 fd, .int .i64 at_, .int .i64 n, .int .u64 (till : Nat), .int .i64 snap, .slice A data.length c] := by rw [hWA, hg]; exact Blk.new w _ _
  have hR : Blk WR (g + 1) 25 [.int .i64 0, .string ⟨#[]⟩, .string ⟨#[]⟩, .int .i64 0, .int .i64 0, .int .i64 0, .int .u64 0, .int .i64 0, .slice none 0 0] := by rw [hWR, ← hzA]; exact Blk.new WA _ _
  have hb2 : Below WA.heap.size WA WR := by rw [hWR]; exact below_new WA _
  have hb3 : Below WR.heap.size WR WX := by rw [hWX]; exact below_new WR _
  have HA : Hid (Blk WX g 25 [.int .i64 3, .string (strOf path), .string (strOf dest), .int .i64 fd, .int .i64 at_, .int .i64 n, .int .u64 (till : Nat), .int .i64 snap, .slice A data.length c]) := (hA.below hb2 hA.lt).below hb3 (hA.below hb2 hA.lt).lt
  have HR : Hid (Blk WX (g + 1) 25 [.int .i64 0, .string ⟨#[]⟩, .string ⟨#[]⟩, .int .i64 0, .int .i64 0, .int .i64 0, .int .u64 0, .int .i64 0, .slice none 0 0]) := hR.below hb3 hR.lt
  have HX0 : Hid (Blk WX (g + 2) 25 [.int .i64 3, .string ⟨#[]⟩, .string ⟨#[]⟩, .int .i64 0, .int .i64 0, .int .i64 0, .int .u64 0, .int .i64 0, .slice none 0 0]) := by show Blk _ _ _ _; rw [hWX, ← hzR]; exact Blk.new WR _ _
  have HB : Hid (Below w.heap.size w WX) := by
    have hb1 : Below w.heap.size w WA := by rw [hWA]; exact below_new w _
    exact (hb1.trans (hb2.mono hb1.size)).trans (hb3.mono (Nat.le_trans hb1.size hb2.size))
  have HGG : Hid (w.heap.size ≤ g) := Nat.le_of_eq hg.symm
  clear hA hR hb2 hb3 hzA hzR
  go_enter Try.func24, Try.ntmps24
  go_upto_region 2 with (fail)
  rw [← hWA, ← hWR, ← hWX, ← hg]
  try rw [show g + 1 + 1 = g + 2 from rfl]
  clear hWA hWR hWX hg
  have hkd : Kd 3 := by decide
  have HKD := Lib.hid hkd
  clear hkd
  have a0 := HA.out.cell 0
  go_wp2_with fail
  refine (r_hasPath 3 HKD.out _).mono ?_
  rintro e wq ⟨rfl, hq⟩
  rw [hq]
  clear hq wq
  rw [show hasPath 3 = true from rfl]
  have b1 := HA.out.cell 1
  have x1 := HX0.out.cell 1
  have f1 := HX0.out.frozen 1
  obtain ⟨W1, hW⟩ : ∃ W, W = (WX.setCell ⟨g + 2, 1, none⟩ (.string (strOf path))) := ⟨_, rfl⟩
  have HX1 : Hid (Blk W1 (g + 2) 25 [.int .i64 3, .string (strOf path), .string ⟨#[]⟩, .int .i64 0, .int .i64 0, .int .i64 0, .int .u64 0, .int .i64 0, .slice none 0 0]) := by show Blk _ _ _ _; rw [hW]; exact (HX0.out.set_ 1 (.string (strOf path)))
  have HA1 : Hid (Blk W1 g 25 [.int .i64 3, .string (strOf path), .string (strOf dest), .int .i64 fd, .int .i64 at_, .int .i64 n, .int .u64 (till : Nat), .int .i64 snap, .slice A data.length c]) := by show Blk _ _ _ _; rw [hW]; exact (HA.out.far (by show g ≠ g + 2; omega) _)
  have HR1 : Hid (Blk W1 (g + 1) 25 [.int .i64 0, .string ⟨#[]⟩, .string ⟨#[]⟩, .int .i64 0, .int .i64 0, .int .i64 0, .int .u64 0, .int .i64 0, .slice none 0 0]) := by show Blk _ _ _ _; rw [hW]; exact (HR.out.far (by show g + 1 ≠ g + 2; omega) _)
  have HB1 : Hid (Below w.heap.size w W1) := by show Below _ _ _; rw [hW]; exact (below_set1 HB.out (Nat.le_trans HGG.out (by omega)) 1 (.string (strOf path)))
  go_upto_region 4 with (fail)
  rw [← hW]
  clear hW HX0 HA HR HB a0 b1 x1 f1
  have a0 := HA1.out.cell 0
  go_wp2_with fail
  refine (r_hasTo 3 HKD.out _).mono ?_
  rintro e wq ⟨rfl, hq⟩
  rw [hq]
  clear hq wq
  rw [show hasTo 3 = false from rfl]
  go_upto_region 6 with (fail)
  clear a0
  have a0 := HA1.out.cell 0
  go_wp2_with fail
  refine (r_hasFd 3 HKD.out _).mono ?_
  rintro e wq ⟨rfl, hq⟩
  rw [hq]
  clear hq wq
  rw [show hasFd 3 = false from rfl]
  go_upto_region 8 with (fail)
  clear a0
  have a0 := HA1.out.cell 0
  go_upto_region 10 with (fail)
  clear a0
  have a0 := HA1.out.cell 0
  go_wp2_with fail
  refine (r_hasTill 3 HKD.out _).mono ?_
  rintro e wq ⟨rfl, hq⟩
  rw [hq]
  clear hq wq
  rw [show hasTill 3 = false from rfl]
  go_upto_region 12 with (fail)
  clear a0
  have a0 := HA1.out.cell 0
  go_wp2_with fail
  refine (r_hasSnap 3 HKD.out _).mono ?_
  rintro e wq ⟨rfl, hq⟩
  rw [hq]
  clear hq wq
  rw [show hasSnap 3 = true from rfl]
  have b7 := HA1.out.cell 7
  have x7 := HX1.out.cell 7
  have f7 := HX1.out.frozen 7
  obtain ⟨W2, hW⟩ : ∃ W, W = (W1.setCell ⟨g + 2, 7, none⟩ (.int .i64 snap)) := ⟨_, rfl⟩
  have HX2 : Hid (Blk W2 (g + 2) 25 [.int .i64 3, .string (strOf path), .string ⟨#[]⟩, .int .i64 0, .int .i64 0, .int .i64 0, .int .u64 0, .int .i64 snap, .slice none 0 0]) := by show Blk _ _ _ _; rw [hW]; exact (HX1.out.set_ 7 (.int .i64 snap))
  have HA2 : Hid (Blk W2 g 25 [.int .i64 3, .string (strOf path), .string (strOf dest), .int .i64 fd, .int .i64 at_, .int .i64 n, .int .u64 (till : Nat), .int .i64 snap, .slice A data.length c]) := by show Blk _ _ _ _; rw [hW]; exact (HA1.out.far (by show g ≠ g + 2; omega) _)
  have HR2 : Hid (Blk W2 (g + 1) 25 [.int .i64 0, .string ⟨#[]⟩, .string ⟨#[]⟩, .int .i64 0, .int .i64 0, .int .i64 0, .int .u64 0, .int .i64 0, .slice none 0 0]) := by show Blk _ _ _ _; rw [hW]; exact (HR1.out.far (by show g + 1 ≠ g + 2; omega) _)
  have HB2 : Hid (Below w.heap.size w W2) := by show Below _ _ _; rw [hW]; exact (below_set1 HB1.out (Nat.le_trans HGG.out (by omega)) 7 (.int .i64 snap))
  go_upto_region 14 with (fail)
  rw [← hW]
  clear hW HX1 HA1 HR1 HB1 a0 b7 x7 f7
  have a0 := HA2.out.cell 0
  go_upto_region 16 with (fail)
  clear a0
  have x0 := HX2.out.cell 0
  have r0 := HR2.out.cell 0
  have q0 := HR2.out.frozen 0
  have x1 := HX2.out.cell 1
  have r1 := HR2.out.cell 1
  have q1 := HR2.out.frozen 1
  have x2 := HX2.out.cell 2
  have r2 := HR2.out.cell 2
  have q2 := HR2.out.frozen 2
  have x3 := HX2.out.cell 3
  have r3 := HR2.out.cell 3
  have q3 := HR2.out.frozen 3
  have x4 := HX2.out.cell 4
  have r4 := HR2.out.cell 4
  have q4 := HR2.out.frozen 4
  have x5 := HX2.out.cell 5
  have r5 := HR2.out.cell 5
  have q5 := HR2.out.frozen 5
  have x6 := HX2.out.cell 6
  have r6 := HR2.out.cell 6
  have q6 := HR2.out.frozen 6
  have x7 := HX2.out.cell 7
  have r7 := HR2.out.cell 7
  have q7 := HR2.out.frozen 7
  have x8 := HX2.out.cell 8
  have r8 := HR2.out.cell 8
  have q8 := HR2.out.frozen 8
  go_wp2_with fail
  refine bodyPost_ret (results_blk1 rfl _ _ (g + 1) 25 _ _ rfl (set9_blk HR2.out _ _ _ _ _ _ _ _ _) rfl rfl rfl) rfl ⟨rfl, ?_⟩
  exact below_row9 HB2.out (Nat.le_trans HGG.out (by omega)) _ _ _ _ _ _ _ _ _
set_option maxHeartbeats 4000000 in
set_option maxRecDepth 100000 in
theorem asked_4 (path dest : List UInt8) (fd at_ n : Int) (till : Nat) (snap : Int) (data : List UInt8) (A : Option Addr) (c : Nat) (w : World) :
    Calls Try.prog 24 #[.agg #[.int .i64 4, .string (strOf path), .string (strOf dest), .int .i64 fd, .int .i64 at_, .int .i64 n, .int .u64 (till : Nat), .int .i64 snap, .slice A data.length c]] w fun e w' => e = .returned (.agg #[.int .i64 4, .string ⟨#[]⟩, .string ⟨#[]⟩, .int .i64 fd, .int .i64 at_, .int .i64 n, .int .u64 0, .int .i64 0, .slice none 0 0]) ∧ Below w.heap.size w w' := by
  obtain ⟨WA, hWA⟩ : ∃ W, W = w.alloc (.cells #[.int .i64 4, .string (strOf path), .string (strOf dest), .int .i64 fd, .int .i64 at_, .int .i64 n, .int .u64 (till : Nat), .int .i64 snap, .slice A data.length c] 25) := ⟨_, rfl⟩
  obtain ⟨WR, hWR⟩ : ∃ W, W = WA.alloc (.cells #[.int .i64 0, .string ⟨#[]⟩, .string ⟨#[]⟩, .int .i64 0, .int .i64 0, .int .i64 0, .int .u64 0, .int .i64 0, .slice none 0 0] 25) := ⟨_, rfl⟩
  obtain ⟨WX, hWX⟩ : ∃ W, W = WR.alloc (.cells #[.int .i64 4, .string ⟨#[]⟩, .string ⟨#[]⟩, .int .i64 0, .int .i64 0, .int .i64 0, .int .u64 0, .int .i64 0, .slice none 0 0] 25) := ⟨_, rfl⟩
  obtain ⟨g, hg⟩ : ∃ x, x = w.heap.size := ⟨_, rfl⟩
  have hzA : WA.heap.size = g + 1 := by rw [hWA, World.size_alloc, hg]
  have hzR : WR.heap.size = g + 2 := by rw [hWR, World.size_alloc, hzA]
  have hA : Blk WA g 25 [.int .i64 4, .string (strOf path), .string (strOf dest), .int .i64 fd, .int .i64 at_, .int .i64 n, .int .u64 (till : Nat), .int .i64 snap, .slice A data.length c] := by rw [hWA, hg]; exact Blk.new w _ _
  have hR : Blk WR (g + 1) 25 [.int .i64 0, .string ⟨#[]⟩, .string ⟨#[]⟩, .int .i64 0, .int .i64 0, .int .i64 0, .int .u64 0, .int .i64 0, .slice none 0 0] := by rw [hWR, ← hzA]; exact Blk.new WA _ _
  have hb2 : Below WA.heap.size WA WR := by rw [hWR]; exact below_new WA _
  have hb3 : Below WR.heap.size WR WX := by rw [hWX]; exact below_new WR _
  have HA : Hid (Blk WX g 25 [.int .i64 4, .string (strOf path), .string (strOf dest), .int .i64 fd, .int .i64 at_, .int .i64 n, .int .u64 (till : Nat), .int .i64 snap, .slice A data.length c]) := (hA.below hb2 hA.lt).below hb3 (hA.below hb2 hA.lt).lt
  have HR : Hid (Blk WX (g + 1) 25 [.int .i64 0, .string ⟨#[]⟩, .string ⟨#[]⟩, .int .i64 0, .int .i64 0, .int .i64 0, .int .u64 0, .int .i64 0, .slice none 0 0]) := hR.below hb3 hR.lt
  have HX0 : Hid (Blk WX (g + 2) 25 [.int .i64 4, .string ⟨#[]⟩, .string ⟨#[]⟩, .int .i64 0, .int .i64 0, .int .i64 0, .int .u64 0, .int .i64 0, .slice none 0 0]) := by show Blk _ _ _ _; rw [hWX, ← hzR]; exact Blk.new WR _ _
  have HB : Hid (Below w.heap.size w WX) := by
    have hb1 : Below w.heap.size w WA := by rw [hWA]; exact below_new w _
    exact (hb1.trans (hb2.mono hb1.size)).trans (hb3.mono (Nat.le_trans hb1.size hb2.size))
  have HGG : Hid (w.heap.size ≤ g) := Nat.le_of_eq hg.symm
  clear hA hR hb2 hb3 hzA hzR
  go_enter Try.func24, Try.ntmps24
  go_upto_region 2 with (fail)
  rw [← hWA, ← hWR, ← hWX, ← hg]
  try rw [show g + 1 + 1 = g + 2 from rfl]
  clear hWA hWR hWX hg
  have hkd : Kd 4 := by decide
  have HKD := Lib.hid hkd
  clear hkd
  have a0 := HA.out.cell 0
  go_wp2_with fail
  refine (r_hasPath 4 HKD.out _).mono ?_
  rintro e wq ⟨rfl, hq⟩
  rw [hq]
  clear hq wq
  rw [show hasPath 4 = false from rfl]
  go_upto_region 4 with (fail)
  clear a0
  have a0 := HA.out.cell 0
  go_wp2_with fail
  refine (r_hasTo 4 HKD.out _).mono ?_
  rintro e wq ⟨rfl, hq⟩
  rw [hq]
  clear hq wq
  rw [show hasTo 4 = false from rfl]
  go_upto_region 6 with (fail)
  clear a0
  have a0 := HA.out.cell 0
  go_wp2_with fail
  refine (r_hasFd 4 HKD.out _).mono ?_
  rintro e wq ⟨rfl, hq⟩
  rw [hq]
  clear hq wq
  rw [show hasFd 4 = true from rfl]
  have b3 := HA.out.cell 3
  have x3 := HX0.out.cell 3
  have f3 := HX0.out.frozen 3
  obtain ⟨W1, hW⟩ : ∃ W, W = (WX.setCell ⟨g + 2, 3, none⟩ (.int .i64 fd)) := ⟨_, rfl⟩
  have HX1 : Hid (Blk W1 (g + 2) 25 [.int .i64 4, .string ⟨#[]⟩, .string ⟨#[]⟩, .int .i64 fd, .int .i64 0, .int .i64 0, .int .u64 0, .int .i64 0, .slice none 0 0]) := by show Blk _ _ _ _; rw [hW]; exact (HX0.out.set_ 3 (.int .i64 fd))
  have HA1 : Hid (Blk W1 g 25 [.int .i64 4, .string (strOf path), .string (strOf dest), .int .i64 fd, .int .i64 at_, .int .i64 n, .int .u64 (till : Nat), .int .i64 snap, .slice A data.length c]) := by show Blk _ _ _ _; rw [hW]; exact (HA.out.far (by show g ≠ g + 2; omega) _)
  have HR1 : Hid (Blk W1 (g + 1) 25 [.int .i64 0, .string ⟨#[]⟩, .string ⟨#[]⟩, .int .i64 0, .int .i64 0, .int .i64 0, .int .u64 0, .int .i64 0, .slice none 0 0]) := by show Blk _ _ _ _; rw [hW]; exact (HR.out.far (by show g + 1 ≠ g + 2; omega) _)
  have HB1 : Hid (Below w.heap.size w W1) := by show Below _ _ _; rw [hW]; exact (below_set1 HB.out (Nat.le_trans HGG.out (by omega)) 3 (.int .i64 fd))
  go_upto_region 8 with (fail)
  rw [← hW]
  clear hW HX0 HA HR HB a0 b3 x3 f3
  have a0 := HA1.out.cell 0
  have b4 := HA1.out.cell 4
  have x4 := HX1.out.cell 4
  have f4 := HX1.out.frozen 4
  have b5 := HA1.out.cell 5
  have x5 := HX1.out.cell 5
  have f5 := HX1.out.frozen 5
  go_upto_region 9 with (fail)
  go_region_with (fail)
  all_goals
    first
    | (
      change Exit.then _ _ _ _ ((W1.setCell ⟨g + 2, 4, none⟩ (.int .i64 at_)).setCell ⟨g + 2, 5, none⟩ (.int .i64 n)).drew
      obtain ⟨W2, hW⟩ : ∃ W, W = ((W1.setCell ⟨g + 2, 4, none⟩ (.int .i64 at_)).setCell ⟨g + 2, 5, none⟩ (.int .i64 n)).drew := ⟨_, rfl⟩
      have HX2 : Hid (Blk W2 (g + 2) 25 [.int .i64 4, .string ⟨#[]⟩, .string ⟨#[]⟩, .int .i64 fd, .int .i64 at_, .int .i64 n, .int .u64 0, .int .i64 0, .slice none 0 0]) := by show Blk _ _ _ _; rw [hW]; exact Blk.drew ((HX1.out.set_ 4 (.int .i64 at_)).set_ 5 (.int .i64 n))
      have HA2 : Hid (Blk W2 g 25 [.int .i64 4, .string (strOf path), .string (strOf dest), .int .i64 fd, .int .i64 at_, .int .i64 n, .int .u64 (till : Nat), .int .i64 snap, .slice A data.length c]) := by show Blk _ _ _ _; rw [hW]; exact Blk.drew ((HA1.out.far (by show g ≠ g + 2; omega) _).far (by show g ≠ g + 2; omega) _)
      have HR2 : Hid (Blk W2 (g + 1) 25 [.int .i64 0, .string ⟨#[]⟩, .string ⟨#[]⟩, .int .i64 0, .int .i64 0, .int .i64 0, .int .u64 0, .int .i64 0, .slice none 0 0]) := by show Blk _ _ _ _; rw [hW]; exact Blk.drew ((HR1.out.far (by show g + 1 ≠ g + 2; omega) _).far (by show g + 1 ≠ g + 2; omega) _)
      have HB2 : Hid (Below w.heap.size w W2) := by show Below _ _ _; rw [hW]; exact below_drewO (below_set1 (below_set1 HB1.out (Nat.le_trans HGG.out (by omega)) 4 (.int .i64 at_)) (Nat.le_trans HGG.out (by omega)) 5 (.int .i64 n))
      rw [← hW]
      clear hW HX1 HA1 HR1 HB1 a0 b4 x4 f4 b5 x5 f5
      have a0 := HA2.out.cell 0
      go_wp2_with fail
      refine (r_hasTill 4 HKD.out _).mono ?_
      rintro e wq ⟨rfl, hq⟩
      rw [hq]
      clear hq wq
      rw [show hasTill 4 = false from rfl]
      go_upto_region 12 with (fail)
      clear a0
      have a0 := HA2.out.cell 0
      go_wp2_with fail
      refine (r_hasSnap 4 HKD.out _).mono ?_
      rintro e wq ⟨rfl, hq⟩
      rw [hq]
      clear hq wq
      rw [show hasSnap 4 = false from rfl]
      go_upto_region 14 with (fail)
      clear a0
      have a0 := HA2.out.cell 0
      go_upto_region 16 with (fail)
      clear a0
      have x0 := HX2.out.cell 0
      have r0 := HR2.out.cell 0
      have q0 := HR2.out.frozen 0
      have x1 := HX2.out.cell 1
      have r1 := HR2.out.cell 1
      have q1 := HR2.out.frozen 1
      have x2 := HX2.out.cell 2
      have r2 := HR2.out.cell 2
      have q2 := HR2.out.frozen 2
      have x3 := HX2.out.cell 3
      have r3 := HR2.out.cell 3
      have q3 := HR2.out.frozen 3
      have x4 := HX2.out.cell 4
      have r4 := HR2.out.cell 4
      have q4 := HR2.out.frozen 4
      have x5 := HX2.out.cell 5
      have r5 := HR2.out.cell 5
      have q5 := HR2.out.frozen 5
      have x6 := HX2.out.cell 6
      have r6 := HR2.out.cell 6
      have q6 := HR2.out.frozen 6
      have x7 := HX2.out.cell 7
      have r7 := HR2.out.cell 7
      have q7 := HR2.out.frozen 7
      have x8 := HX2.out.cell 8
      have r8 := HR2.out.cell 8
      have q8 := HR2.out.frozen 8
      go_wp2_with fail
      refine bodyPost_ret (results_blk1 rfl _ _ (g + 1) 25 _ _ rfl (set9_blk HR2.out _ _ _ _ _ _ _ _ _) rfl rfl rfl) rfl ⟨rfl, ?_⟩
      exact below_row9 HB2.out (Nat.le_trans HGG.out (by omega)) _ _ _ _ _ _ _ _ _
      )
    | (
      change Exit.then _ _ _ _ ((W1.setCell ⟨g + 2, 5, none⟩ (.int .i64 n)).setCell ⟨g + 2, 4, none⟩ (.int .i64 at_)).drew
      obtain ⟨W2, hW⟩ : ∃ W, W = ((W1.setCell ⟨g + 2, 5, none⟩ (.int .i64 n)).setCell ⟨g + 2, 4, none⟩ (.int .i64 at_)).drew := ⟨_, rfl⟩
      have HX2 : Hid (Blk W2 (g + 2) 25 [.int .i64 4, .string ⟨#[]⟩, .string ⟨#[]⟩, .int .i64 fd, .int .i64 at_, .int .i64 n, .int .u64 0, .int .i64 0, .slice none 0 0]) := by show Blk _ _ _ _; rw [hW]; exact Blk.drew ((HX1.out.set_ 5 (.int .i64 n)).set_ 4 (.int .i64 at_))
      have HA2 : Hid (Blk W2 g 25 [.int .i64 4, .string (strOf path), .string (strOf dest), .int .i64 fd, .int .i64 at_, .int .i64 n, .int .u64 (till : Nat), .int .i64 snap, .slice A data.length c]) := by show Blk _ _ _ _; rw [hW]; exact Blk.drew Blk.drew ((HA1.out.far (by show g ≠ g + 2; omega) _).far (by show g ≠ g + 2; omega) _)
      have HR2 : Hid (Blk W2 (g + 1) 25 [.int .i64 0, .string ⟨#[]⟩, .string ⟨#[]⟩, .int .i64 0, .int .i64 0, .int .i64 0, .int .u64 0, .int .i64 0, .slice none 0 0]) := by show Blk _ _ _ _; rw [hW]; exact Blk.drew Blk.drew ((HR1.out.far (by show g + 1 ≠ g + 2; omega) _).far (by show g + 1 ≠ g + 2; omega) _)
      have HB2 : Hid (Below w.heap.size w W2) := by show Below _ _ _; rw [hW]; exact below_drewO (below_set1 (below_set1 HB1.out (Nat.le_trans HGG.out (by omega)) 5 (.int .i64 n)) (Nat.le_trans HGG.out (by omega)) 4 (.int .i64 at_))
      rw [← hW]
      clear hW HX1 HA1 HR1 HB1 a0 b4 x4 f4 b5 x5 f5
      have a0 := HA2.out.cell 0
      go_wp2_with fail
      refine (r_hasTill 4 HKD.out _).mono ?_
      rintro e wq ⟨rfl, hq⟩
      rw [hq]
      clear hq wq
      rw [show hasTill 4 = false from rfl]
      go_upto_region 12 with (fail)
      clear a0
      have a0 := HA2.out.cell 0
      go_wp2_with fail
      refine (r_hasSnap 4 HKD.out _).mono ?_
      rintro e wq ⟨rfl, hq⟩
      rw [hq]
      clear hq wq
      rw [show hasSnap 4 = false from rfl]
      go_upto_region 14 with (fail)
      clear a0
      have a0 := HA2.out.cell 0
      go_upto_region 16 with (fail)
      clear a0
      have x0 := HX2.out.cell 0
      have r0 := HR2.out.cell 0
      have q0 := HR2.out.frozen 0
      have x1 := HX2.out.cell 1
      have r1 := HR2.out.cell 1
      have q1 := HR2.out.frozen 1
      have x2 := HX2.out.cell 2
      have r2 := HR2.out.cell 2
      have q2 := HR2.out.frozen 2
      have x3 := HX2.out.cell 3
      have r3 := HR2.out.cell 3
      have q3 := HR2.out.frozen 3
      have x4 := HX2.out.cell 4
      have r4 := HR2.out.cell 4
      have q4 := HR2.out.frozen 4
      have x5 := HX2.out.cell 5
      have r5 := HR2.out.cell 5
      have q5 := HR2.out.frozen 5
      have x6 := HX2.out.cell 6
      have r6 := HR2.out.cell 6
      have q6 := HR2.out.frozen 6
      have x7 := HX2.out.cell 7
      have r7 := HR2.out.cell 7
      have q7 := HR2.out.frozen 7
      have x8 := HX2.out.cell 8
      have r8 := HR2.out.cell 8
      have q8 := HR2.out.frozen 8
      go_wp2_with fail
      refine bodyPost_ret (results_blk1 rfl _ _ (g + 1) 25 _ _ rfl (set9_blk HR2.out _ _ _ _ _ _ _ _ _) rfl rfl rfl) rfl ⟨rfl, ?_⟩
      exact below_row9 HB2.out (Nat.le_trans HGG.out (by omega)) _ _ _ _ _ _ _ _ _
      )
set_option maxHeartbeats 4000000 in
set_option maxRecDepth 100000 in
theorem asked_5 (path dest : List UInt8) (fd at_ n : Int) (till : Nat) (snap : Int) (data : List UInt8) (A : Option Addr) (c : Nat) (w : World) :
    Calls Try.prog 24 #[.agg #[.int .i64 5, .string (strOf path), .string (strOf dest), .int .i64 fd, .int .i64 at_, .int .i64 n, .int .u64 (till : Nat), .int .i64 snap, .slice A data.length c]] w fun e w' => e = .returned (.agg #[.int .i64 5, .string ⟨#[]⟩, .string ⟨#[]⟩, .int .i64 fd, .int .i64 0, .int .i64 0, .int .u64 0, .int .i64 0, .slice A data.length c]) ∧ Below w.heap.size w w' := by
  obtain ⟨WA, hWA⟩ : ∃ W, W = w.alloc (.cells #[.int .i64 5, .string (strOf path), .string (strOf dest), .int .i64 fd, .int .i64 at_, .int .i64 n, .int .u64 (till : Nat), .int .i64 snap, .slice A data.length c] 25) := ⟨_, rfl⟩
  obtain ⟨WR, hWR⟩ : ∃ W, W = WA.alloc (.cells #[.int .i64 0, .string ⟨#[]⟩, .string ⟨#[]⟩, .int .i64 0, .int .i64 0, .int .i64 0, .int .u64 0, .int .i64 0, .slice none 0 0] 25) := ⟨_, rfl⟩
  obtain ⟨WX, hWX⟩ : ∃ W, W = WR.alloc (.cells #[.int .i64 5, .string ⟨#[]⟩, .string ⟨#[]⟩, .int .i64 0, .int .i64 0, .int .i64 0, .int .u64 0, .int .i64 0, .slice none 0 0] 25) := ⟨_, rfl⟩
  obtain ⟨g, hg⟩ : ∃ x, x = w.heap.size := ⟨_, rfl⟩
  have hzA : WA.heap.size = g + 1 := by rw [hWA, World.size_alloc, hg]
  have hzR : WR.heap.size = g + 2 := by rw [hWR, World.size_alloc, hzA]
  have hA : Blk WA g 25 [.int .i64 5, .string (strOf path), .string (strOf dest), .int .i64 fd, .int .i64 at_, .int .i64 n, .int .u64 (till : Nat), .int .i64 snap, .slice A data.length c] := by rw [hWA, hg]; exact Blk.new w _ _
  have hR : Blk WR (g + 1) 25 [.int .i64 0, .string ⟨#[]⟩, .string ⟨#[]⟩, .int .i64 0, .int .i64 0, .int .i64 0, .int .u64 0, .int .i64 0, .slice none 0 0] := by rw [hWR, ← hzA]; exact Blk.new WA _ _
  have hb2 : Below WA.heap.size WA WR := by rw [hWR]; exact below_new WA _
  have hb3 : Below WR.heap.size WR WX := by rw [hWX]; exact below_new WR _
  have HA : Hid (Blk WX g 25 [.int .i64 5, .string (strOf path), .string (strOf dest), .int .i64 fd, .int .i64 at_, .int .i64 n, .int .u64 (till : Nat), .int .i64 snap, .slice A data.length c]) := (hA.below hb2 hA.lt).below hb3 (hA.below hb2 hA.lt).lt
  have HR : Hid (Blk WX (g + 1) 25 [.int .i64 0, .string ⟨#[]⟩, .string ⟨#[]⟩, .int .i64 0, .int .i64 0, .int .i64 0, .int .u64 0, .int .i64 0, .slice none 0 0]) := hR.below hb3 hR.lt
  have HX0 : Hid (Blk WX (g + 2) 25 [.int .i64 5, .string ⟨#[]⟩, .string ⟨#[]⟩, .int .i64 0, .int .i64 0, .int .i64 0, .int .u64 0, .int .i64 0, .slice none 0 0]) := by show Blk _ _ _ _; rw [hWX, ← hzR]; exact Blk.new WR _ _
  have HB : Hid (Below w.heap.size w WX) := by
    have hb1 : Below w.heap.size w WA := by rw [hWA]; exact below_new w _
    exact (hb1.trans (hb2.mono hb1.size)).trans (hb3.mono (Nat.le_trans hb1.size hb2.size))
  have HGG : Hid (w.heap.size ≤ g) := Nat.le_of_eq hg.symm
  clear hA hR hb2 hb3 hzA hzR
  go_enter Try.func24, Try.ntmps24
  go_upto_region 2 with (fail)
  rw [← hWA, ← hWR, ← hWX, ← hg]
  try rw [show g + 1 + 1 = g + 2 from rfl]
  clear hWA hWR hWX hg
  have hkd : Kd 5 := by decide
  have HKD := Lib.hid hkd
  clear hkd
  have a0 := HA.out.cell 0
  go_wp2_with fail
  refine (r_hasPath 5 HKD.out _).mono ?_
  rintro e wq ⟨rfl, hq⟩
  rw [hq]
  clear hq wq
  rw [show hasPath 5 = false from rfl]
  go_upto_region 4 with (fail)
  clear a0
  have a0 := HA.out.cell 0
  go_wp2_with fail
  refine (r_hasTo 5 HKD.out _).mono ?_
  rintro e wq ⟨rfl, hq⟩
  rw [hq]
  clear hq wq
  rw [show hasTo 5 = false from rfl]
  go_upto_region 6 with (fail)
  clear a0
  have a0 := HA.out.cell 0
  go_wp2_with fail
  refine (r_hasFd 5 HKD.out _).mono ?_
  rintro e wq ⟨rfl, hq⟩
  rw [hq]
  clear hq wq
  rw [show hasFd 5 = true from rfl]
  have b3 := HA.out.cell 3
  have x3 := HX0.out.cell 3
  have f3 := HX0.out.frozen 3
  obtain ⟨W1, hW⟩ : ∃ W, W = (WX.setCell ⟨g + 2, 3, none⟩ (.int .i64 fd)) := ⟨_, rfl⟩
  have HX1 : Hid (Blk W1 (g + 2) 25 [.int .i64 5, .string ⟨#[]⟩, .string ⟨#[]⟩, .int .i64 fd, .int .i64 0, .int .i64 0, .int .u64 0, .int .i64 0, .slice none 0 0]) := by show Blk _ _ _ _; rw [hW]; exact (HX0.out.set_ 3 (.int .i64 fd))
  have HA1 : Hid (Blk W1 g 25 [.int .i64 5, .string (strOf path), .string (strOf dest), .int .i64 fd, .int .i64 at_, .int .i64 n, .int .u64 (till : Nat), .int .i64 snap, .slice A data.length c]) := by show Blk _ _ _ _; rw [hW]; exact (HA.out.far (by show g ≠ g + 2; omega) _)
  have HR1 : Hid (Blk W1 (g + 1) 25 [.int .i64 0, .string ⟨#[]⟩, .string ⟨#[]⟩, .int .i64 0, .int .i64 0, .int .i64 0, .int .u64 0, .int .i64 0, .slice none 0 0]) := by show Blk _ _ _ _; rw [hW]; exact (HR.out.far (by show g + 1 ≠ g + 2; omega) _)
  have HB1 : Hid (Below w.heap.size w W1) := by show Below _ _ _; rw [hW]; exact (below_set1 HB.out (Nat.le_trans HGG.out (by omega)) 3 (.int .i64 fd))
  go_upto_region 8 with (fail)
  rw [← hW]
  clear hW HX0 HA HR HB a0 b3 x3 f3
  have a0 := HA1.out.cell 0
  go_upto_region 10 with (fail)
  clear a0
  have a0 := HA1.out.cell 0
  go_wp2_with fail
  refine (r_hasTill 5 HKD.out _).mono ?_
  rintro e wq ⟨rfl, hq⟩
  rw [hq]
  clear hq wq
  rw [show hasTill 5 = false from rfl]
  go_upto_region 12 with (fail)
  clear a0
  have a0 := HA1.out.cell 0
  go_wp2_with fail
  refine (r_hasSnap 5 HKD.out _).mono ?_
  rintro e wq ⟨rfl, hq⟩
  rw [hq]
  clear hq wq
  rw [show hasSnap 5 = false from rfl]
  go_upto_region 14 with (fail)
  clear a0
  have a0 := HA1.out.cell 0
  have b8 := HA1.out.cell 8
  have x8 := HX1.out.cell 8
  have f8 := HX1.out.frozen 8
  obtain ⟨W2, hW⟩ : ∃ W, W = (W1.setCell ⟨g + 2, 8, none⟩ (.slice A data.length c)) := ⟨_, rfl⟩
  have HX2 : Hid (Blk W2 (g + 2) 25 [.int .i64 5, .string ⟨#[]⟩, .string ⟨#[]⟩, .int .i64 fd, .int .i64 0, .int .i64 0, .int .u64 0, .int .i64 0, .slice A data.length c]) := by show Blk _ _ _ _; rw [hW]; exact (HX1.out.set_ 8 (.slice A data.length c))
  have HA2 : Hid (Blk W2 g 25 [.int .i64 5, .string (strOf path), .string (strOf dest), .int .i64 fd, .int .i64 at_, .int .i64 n, .int .u64 (till : Nat), .int .i64 snap, .slice A data.length c]) := by show Blk _ _ _ _; rw [hW]; exact (HA1.out.far (by show g ≠ g + 2; omega) _)
  have HR2 : Hid (Blk W2 (g + 1) 25 [.int .i64 0, .string ⟨#[]⟩, .string ⟨#[]⟩, .int .i64 0, .int .i64 0, .int .i64 0, .int .u64 0, .int .i64 0, .slice none 0 0]) := by show Blk _ _ _ _; rw [hW]; exact (HR1.out.far (by show g + 1 ≠ g + 2; omega) _)
  have HB2 : Hid (Below w.heap.size w W2) := by show Below _ _ _; rw [hW]; exact (below_set1 HB1.out (Nat.le_trans HGG.out (by omega)) 8 (.slice A data.length c))
  go_upto_region 16 with (fail)
  rw [← hW]
  clear hW HX1 HA1 HR1 HB1 a0 b8 x8 f8
  have x0 := HX2.out.cell 0
  have r0 := HR2.out.cell 0
  have q0 := HR2.out.frozen 0
  have x1 := HX2.out.cell 1
  have r1 := HR2.out.cell 1
  have q1 := HR2.out.frozen 1
  have x2 := HX2.out.cell 2
  have r2 := HR2.out.cell 2
  have q2 := HR2.out.frozen 2
  have x3 := HX2.out.cell 3
  have r3 := HR2.out.cell 3
  have q3 := HR2.out.frozen 3
  have x4 := HX2.out.cell 4
  have r4 := HR2.out.cell 4
  have q4 := HR2.out.frozen 4
  have x5 := HX2.out.cell 5
  have r5 := HR2.out.cell 5
  have q5 := HR2.out.frozen 5
  have x6 := HX2.out.cell 6
  have r6 := HR2.out.cell 6
  have q6 := HR2.out.frozen 6
  have x7 := HX2.out.cell 7
  have r7 := HR2.out.cell 7
  have q7 := HR2.out.frozen 7
  have x8 := HX2.out.cell 8
  have r8 := HR2.out.cell 8
  have q8 := HR2.out.frozen 8
  go_wp2_with fail
  refine bodyPost_ret (results_blk1 rfl _ _ (g + 1) 25 _ _ rfl (set9_blk HR2.out _ _ _ _ _ _ _ _ _) rfl rfl rfl) rfl ⟨rfl, ?_⟩
  exact below_row9 HB2.out (Nat.le_trans HGG.out (by omega)) _ _ _ _ _ _ _ _ _
set_option maxHeartbeats 4000000 in
set_option maxRecDepth 100000 in
theorem asked_6 (path dest : List UInt8) (fd at_ n : Int) (till : Nat) (snap : Int) (data : List UInt8) (A : Option Addr) (c : Nat) (w : World) :
    Calls Try.prog 24 #[.agg #[.int .i64 6, .string (strOf path), .string (strOf dest), .int .i64 fd, .int .i64 at_, .int .i64 n, .int .u64 (till : Nat), .int .i64 snap, .slice A data.length c]] w fun e w' => e = .returned (.agg #[.int .i64 6, .string ⟨#[]⟩, .string ⟨#[]⟩, .int .i64 fd, .int .i64 0, .int .i64 0, .int .u64 (till : Nat), .int .i64 0, .slice none 0 0]) ∧ Below w.heap.size w w' := by
  obtain ⟨WA, hWA⟩ : ∃ W, W = w.alloc (.cells #[.int .i64 6, .string (strOf path), .string (strOf dest), .int .i64 fd, .int .i64 at_, .int .i64 n, .int .u64 (till : Nat), .int .i64 snap, .slice A data.length c] 25) := ⟨_, rfl⟩
  obtain ⟨WR, hWR⟩ : ∃ W, W = WA.alloc (.cells #[.int .i64 0, .string ⟨#[]⟩, .string ⟨#[]⟩, .int .i64 0, .int .i64 0, .int .i64 0, .int .u64 0, .int .i64 0, .slice none 0 0] 25) := ⟨_, rfl⟩
  obtain ⟨WX, hWX⟩ : ∃ W, W = WR.alloc (.cells #[.int .i64 6, .string ⟨#[]⟩, .string ⟨#[]⟩, .int .i64 0, .int .i64 0, .int .i64 0, .int .u64 0, .int .i64 0, .slice none 0 0] 25) := ⟨_, rfl⟩
  obtain ⟨g, hg⟩ : ∃ x, x = w.heap.size := ⟨_, rfl⟩
  have hzA : WA.heap.size = g + 1 := by rw [hWA, World.size_alloc, hg]
  have hzR : WR.heap.size = g + 2 := by rw [hWR, World.size_alloc, hzA]
  have hA : Blk WA g 25 [.int .i64 6, .string (strOf path), .string (strOf dest), .int .i64 fd, .int .i64 at_, .int .i64 n, .int .u64 (till : Nat), .int .i64 snap, .slice A data.length c] := by rw [hWA, hg]; exact Blk.new w _ _
  have hR : Blk WR (g + 1) 25 [.int .i64 0, .string ⟨#[]⟩, .string ⟨#[]⟩, .int .i64 0, .int .i64 0, .int .i64 0, .int .u64 0, .int .i64 0, .slice none 0 0] := by rw [hWR, ← hzA]; exact Blk.new WA _ _
  have hb2 : Below WA.heap.size WA WR := by rw [hWR]; exact below_new WA _
  have hb3 : Below WR.heap.size WR WX := by rw [hWX]; exact below_new WR _
  have HA : Hid (Blk WX g 25 [.int .i64 6, .string (strOf path), .string (strOf dest), .int .i64 fd, .int .i64 at_, .int .i64 n, .int .u64 (till : Nat), .int .i64 snap, .slice A data.length c]) := (hA.below hb2 hA.lt).below hb3 (hA.below hb2 hA.lt).lt
  have HR : Hid (Blk WX (g + 1) 25 [.int .i64 0, .string ⟨#[]⟩, .string ⟨#[]⟩, .int .i64 0, .int .i64 0, .int .i64 0, .int .u64 0, .int .i64 0, .slice none 0 0]) := hR.below hb3 hR.lt
  have HX0 : Hid (Blk WX (g + 2) 25 [.int .i64 6, .string ⟨#[]⟩, .string ⟨#[]⟩, .int .i64 0, .int .i64 0, .int .i64 0, .int .u64 0, .int .i64 0, .slice none 0 0]) := by show Blk _ _ _ _; rw [hWX, ← hzR]; exact Blk.new WR _ _
  have HB : Hid (Below w.heap.size w WX) := by
    have hb1 : Below w.heap.size w WA := by rw [hWA]; exact below_new w _
    exact (hb1.trans (hb2.mono hb1.size)).trans (hb3.mono (Nat.le_trans hb1.size hb2.size))
  have HGG : Hid (w.heap.size ≤ g) := Nat.le_of_eq hg.symm
  clear hA hR hb2 hb3 hzA hzR
  go_enter Try.func24, Try.ntmps24
  go_upto_region 2 with (fail)
  rw [← hWA, ← hWR, ← hWX, ← hg]
  try rw [show g + 1 + 1 = g + 2 from rfl]
  clear hWA hWR hWX hg
  have hkd : Kd 6 := by decide
  have HKD := Lib.hid hkd
  clear hkd
  have a0 := HA.out.cell 0
  go_wp2_with fail
  refine (r_hasPath 6 HKD.out _).mono ?_
  rintro e wq ⟨rfl, hq⟩
  rw [hq]
  clear hq wq
  rw [show hasPath 6 = false from rfl]
  go_upto_region 4 with (fail)
  clear a0
  have a0 := HA.out.cell 0
  go_wp2_with fail
  refine (r_hasTo 6 HKD.out _).mono ?_
  rintro e wq ⟨rfl, hq⟩
  rw [hq]
  clear hq wq
  rw [show hasTo 6 = false from rfl]
  go_upto_region 6 with (fail)
  clear a0
  have a0 := HA.out.cell 0
  go_wp2_with fail
  refine (r_hasFd 6 HKD.out _).mono ?_
  rintro e wq ⟨rfl, hq⟩
  rw [hq]
  clear hq wq
  rw [show hasFd 6 = true from rfl]
  have b3 := HA.out.cell 3
  have x3 := HX0.out.cell 3
  have f3 := HX0.out.frozen 3
  obtain ⟨W1, hW⟩ : ∃ W, W = (WX.setCell ⟨g + 2, 3, none⟩ (.int .i64 fd)) := ⟨_, rfl⟩
  have HX1 : Hid (Blk W1 (g + 2) 25 [.int .i64 6, .string ⟨#[]⟩, .string ⟨#[]⟩, .int .i64 fd, .int .i64 0, .int .i64 0, .int .u64 0, .int .i64 0, .slice none 0 0]) := by show Blk _ _ _ _; rw [hW]; exact (HX0.out.set_ 3 (.int .i64 fd))
  have HA1 : Hid (Blk W1 g 25 [.int .i64 6, .string (strOf path), .string (strOf dest), .int .i64 fd, .int .i64 at_, .int .i64 n, .int .u64 (till : Nat), .int .i64 snap, .slice A data.length c]) := by show Blk _ _ _ _; rw [hW]; exact (HA.out.far (by show g ≠ g + 2; omega) _)
  have HR1 : Hid (Blk W1 (g + 1) 25 [.int .i64 0, .string ⟨#[]⟩, .string ⟨#[]⟩, .int .i64 0, .int .i64 0, .int .i64 0, .int .u64 0, .int .i64 0, .slice none 0 0]) := by show Blk _ _ _ _; rw [hW]; exact (HR.out.far (by show g + 1 ≠ g + 2; omega) _)
  have HB1 : Hid (Below w.heap.size w W1) := by show Below _ _ _; rw [hW]; exact (below_set1 HB.out (Nat.le_trans HGG.out (by omega)) 3 (.int .i64 fd))
  go_upto_region 8 with (fail)
  rw [← hW]
  clear hW HX0 HA HR HB a0 b3 x3 f3
  have a0 := HA1.out.cell 0
  go_upto_region 10 with (fail)
  clear a0
  have a0 := HA1.out.cell 0
  go_wp2_with fail
  refine (r_hasTill 6 HKD.out _).mono ?_
  rintro e wq ⟨rfl, hq⟩
  rw [hq]
  clear hq wq
  rw [show hasTill 6 = true from rfl]
  have b6 := HA1.out.cell 6
  have x6 := HX1.out.cell 6
  have f6 := HX1.out.frozen 6
  obtain ⟨W2, hW⟩ : ∃ W, W = (W1.setCell ⟨g + 2, 6, none⟩ (.int .u64 (till : Nat))) := ⟨_, rfl⟩
  have HX2 : Hid (Blk W2 (g + 2) 25 [.int .i64 6, .string ⟨#[]⟩, .string ⟨#[]⟩, .int .i64 fd, .int .i64 0, .int .i64 0, .int .u64 (till : Nat), .int .i64 0, .slice none 0 0]) := by show Blk _ _ _ _; rw [hW]; exact (HX1.out.set_ 6 (.int .u64 (till : Nat)))
  have HA2 : Hid (Blk W2 g 25 [.int .i64 6, .string (strOf path), .string (strOf dest), .int .i64 fd, .int .i64 at_, .int .i64 n, .int .u64 (till : Nat), .int .i64 snap, .slice A data.length c]) := by show Blk _ _ _ _; rw [hW]; exact (HA1.out.far (by show g ≠ g + 2; omega) _)
  have HR2 : Hid (Blk W2 (g + 1) 25 [.int .i64 0, .string ⟨#[]⟩, .string ⟨#[]⟩, .int .i64 0, .int .i64 0, .int .i64 0, .int .u64 0, .int .i64 0, .slice none 0 0]) := by show Blk _ _ _ _; rw [hW]; exact (HR1.out.far (by show g + 1 ≠ g + 2; omega) _)
  have HB2 : Hid (Below w.heap.size w W2) := by show Below _ _ _; rw [hW]; exact (below_set1 HB1.out (Nat.le_trans HGG.out (by omega)) 6 (.int .u64 (till : Nat)))
  go_upto_region 12 with (fail)
  rw [← hW]
  clear hW HX1 HA1 HR1 HB1 a0 b6 x6 f6
  have a0 := HA2.out.cell 0
  go_wp2_with fail
  refine (r_hasSnap 6 HKD.out _).mono ?_
  rintro e wq ⟨rfl, hq⟩
  rw [hq]
  clear hq wq
  rw [show hasSnap 6 = false from rfl]
  go_upto_region 14 with (fail)
  clear a0
  have a0 := HA2.out.cell 0
  go_upto_region 16 with (fail)
  clear a0
  have x0 := HX2.out.cell 0
  have r0 := HR2.out.cell 0
  have q0 := HR2.out.frozen 0
  have x1 := HX2.out.cell 1
  have r1 := HR2.out.cell 1
  have q1 := HR2.out.frozen 1
  have x2 := HX2.out.cell 2
  have r2 := HR2.out.cell 2
  have q2 := HR2.out.frozen 2
  have x3 := HX2.out.cell 3
  have r3 := HR2.out.cell 3
  have q3 := HR2.out.frozen 3
  have x4 := HX2.out.cell 4
  have r4 := HR2.out.cell 4
  have q4 := HR2.out.frozen 4
  have x5 := HX2.out.cell 5
  have r5 := HR2.out.cell 5
  have q5 := HR2.out.frozen 5
  have x6 := HX2.out.cell 6
  have r6 := HR2.out.cell 6
  have q6 := HR2.out.frozen 6
  have x7 := HX2.out.cell 7
  have r7 := HR2.out.cell 7
  have q7 := HR2.out.frozen 7
  have x8 := HX2.out.cell 8
  have r8 := HR2.out.cell 8
  have q8 := HR2.out.frozen 8
  go_wp2_with fail
  refine bodyPost_ret (results_blk1 rfl _ _ (g + 1) 25 _ _ rfl (set9_blk HR2.out _ _ _ _ _ _ _ _ _) rfl rfl rfl) rfl ⟨rfl, ?_⟩
  exact below_row9 HB2.out (Nat.le_trans HGG.out (by omega)) _ _ _ _ _ _ _ _ _
set_option maxHeartbeats 4000000 in
set_option maxRecDepth 100000 in
theorem asked_7 (path dest : List UInt8) (fd at_ n : Int) (till : Nat) (snap : Int) (data : List UInt8) (A : Option Addr) (c : Nat) (w : World) :
    Calls Try.prog 24 #[.agg #[.int .i64 7, .string (strOf path), .string (strOf dest), .int .i64 fd, .int .i64 at_, .int .i64 n, .int .u64 (till : Nat), .int .i64 snap, .slice A data.length c]] w fun e w' => e = .returned (.agg #[.int .i64 7, .string (strOf path), .string (strOf dest), .int .i64 0, .int .i64 0, .int .i64 0, .int .u64 0, .int .i64 0, .slice none 0 0]) ∧ Below w.heap.size w w' := by
  obtain ⟨WA, hWA⟩ : ∃ W, W = w.alloc (.cells #[.int .i64 7, .string (strOf path), .string (strOf dest), .int .i64 fd, .int .i64 at_, .int .i64 n, .int .u64 (till : Nat), .int .i64 snap, .slice A data.length c] 25) := ⟨_, rfl⟩
  obtain ⟨WR, hWR⟩ : ∃ W, W = WA.alloc (.cells #[.int .i64 0, .string ⟨#[]⟩, .string ⟨#[]⟩, .int .i64 0, .int .i64 0, .int .i64 0, .int .u64 0, .int .i64 0, .slice none 0 0] 25) := ⟨_, rfl⟩
  obtain ⟨WX, hWX⟩ : ∃ W, W = WR.alloc (.cells #[.int .i64 7, .string ⟨#[]⟩, .string ⟨#[]⟩, .int .i64 0, .int .i64 0, .int .i64 0, .int .u64 0, .int .i64 0, .slice none 0 0] 25) := ⟨_, rfl⟩
  obtain ⟨g, hg⟩ : ∃ x, x = w.heap.size := ⟨_, rfl⟩
  have hzA : WA.heap.size = g + 1 := by rw [hWA, World.size_alloc, hg]
  have hzR : WR.heap.size = g + 2 := by rw [hWR, World.size_alloc, hzA]
  have hA : Blk WA g 25 [.int .i64 7, .string (strOf path), .string (strOf dest), .int .i64 fd, .int .i64 at_, .int .i64 n, .int .u64 (till : Nat), .int .i64 snap, .slice A data.length c] := by rw [hWA, hg]; exact Blk.new w _ _
  have hR : Blk WR (g + 1) 25 [.int .i64 0, .string ⟨#[]⟩, .string ⟨#[]⟩, .int .i64 0, .int .i64 0, .int .i64 0, .int .u64 0, .int .i64 0, .slice none 0 0] := by rw [hWR, ← hzA]; exact Blk.new WA _ _
  have hb2 : Below WA.heap.size WA WR := by rw [hWR]; exact below_new WA _
  have hb3 : Below WR.heap.size WR WX := by rw [hWX]; exact below_new WR _
  have HA : Hid (Blk WX g 25 [.int .i64 7, .string (strOf path), .string (strOf dest), .int .i64 fd, .int .i64 at_, .int .i64 n, .int .u64 (till : Nat), .int .i64 snap, .slice A data.length c]) := (hA.below hb2 hA.lt).below hb3 (hA.below hb2 hA.lt).lt
  have HR : Hid (Blk WX (g + 1) 25 [.int .i64 0, .string ⟨#[]⟩, .string ⟨#[]⟩, .int .i64 0, .int .i64 0, .int .i64 0, .int .u64 0, .int .i64 0, .slice none 0 0]) := hR.below hb3 hR.lt
  have HX0 : Hid (Blk WX (g + 2) 25 [.int .i64 7, .string ⟨#[]⟩, .string ⟨#[]⟩, .int .i64 0, .int .i64 0, .int .i64 0, .int .u64 0, .int .i64 0, .slice none 0 0]) := by show Blk _ _ _ _; rw [hWX, ← hzR]; exact Blk.new WR _ _
  have HB : Hid (Below w.heap.size w WX) := by
    have hb1 : Below w.heap.size w WA := by rw [hWA]; exact below_new w _
    exact (hb1.trans (hb2.mono hb1.size)).trans (hb3.mono (Nat.le_trans hb1.size hb2.size))
  have HGG : Hid (w.heap.size ≤ g) := Nat.le_of_eq hg.symm
  clear hA hR hb2 hb3 hzA hzR
  go_enter Try.func24, Try.ntmps24
  go_upto_region 2 with (fail)
  rw [← hWA, ← hWR, ← hWX, ← hg]
  try rw [show g + 1 + 1 = g + 2 from rfl]
  clear hWA hWR hWX hg
  have hkd : Kd 7 := by decide
  have HKD := Lib.hid hkd
  clear hkd
  have a0 := HA.out.cell 0
  go_wp2_with fail
  refine (r_hasPath 7 HKD.out _).mono ?_
  rintro e wq ⟨rfl, hq⟩
  rw [hq]
  clear hq wq
  rw [show hasPath 7 = true from rfl]
  have b1 := HA.out.cell 1
  have x1 := HX0.out.cell 1
  have f1 := HX0.out.frozen 1
  obtain ⟨W1, hW⟩ : ∃ W, W = (WX.setCell ⟨g + 2, 1, none⟩ (.string (strOf path))) := ⟨_, rfl⟩
  have HX1 : Hid (Blk W1 (g + 2) 25 [.int .i64 7, .string (strOf path), .string ⟨#[]⟩, .int .i64 0, .int .i64 0, .int .i64 0, .int .u64 0, .int .i64 0, .slice none 0 0]) := by show Blk _ _ _ _; rw [hW]; exact (HX0.out.set_ 1 (.string (strOf path)))
  have HA1 : Hid (Blk W1 g 25 [.int .i64 7, .string (strOf path), .string (strOf dest), .int .i64 fd, .int .i64 at_, .int .i64 n, .int .u64 (till : Nat), .int .i64 snap, .slice A data.length c]) := by show Blk _ _ _ _; rw [hW]; exact (HA.out.far (by show g ≠ g + 2; omega) _)
  have HR1 : Hid (Blk W1 (g + 1) 25 [.int .i64 0, .string ⟨#[]⟩, .string ⟨#[]⟩, .int .i64 0, .int .i64 0, .int .i64 0, .int .u64 0, .int .i64 0, .slice none 0 0]) := by show Blk _ _ _ _; rw [hW]; exact (HR.out.far (by show g + 1 ≠ g + 2; omega) _)
  have HB1 : Hid (Below w.heap.size w W1) := by show Below _ _ _; rw [hW]; exact (below_set1 HB.out (Nat.le_trans HGG.out (by omega)) 1 (.string (strOf path)))
  go_upto_region 4 with (fail)
  rw [← hW]
  clear hW HX0 HA HR HB a0 b1 x1 f1
  have a0 := HA1.out.cell 0
  go_wp2_with fail
  refine (r_hasTo 7 HKD.out _).mono ?_
  rintro e wq ⟨rfl, hq⟩
  rw [hq]
  clear hq wq
  rw [show hasTo 7 = true from rfl]
  have b2 := HA1.out.cell 2
  have x2 := HX1.out.cell 2
  have f2 := HX1.out.frozen 2
  obtain ⟨W2, hW⟩ : ∃ W, W = (W1.setCell ⟨g + 2, 2, none⟩ (.string (strOf dest))) := ⟨_, rfl⟩
  have HX2 : Hid (Blk W2 (g + 2) 25 [.int .i64 7, .string (strOf path), .string (strOf dest), .int .i64 0, .int .i64 0, .int .i64 0, .int .u64 0, .int .i64 0, .slice none 0 0]) := by show Blk _ _ _ _; rw [hW]; exact (HX1.out.set_ 2 (.string (strOf dest)))
  have HA2 : Hid (Blk W2 g 25 [.int .i64 7, .string (strOf path), .string (strOf dest), .int .i64 fd, .int .i64 at_, .int .i64 n, .int .u64 (till : Nat), .int .i64 snap, .slice A data.length c]) := by show Blk _ _ _ _; rw [hW]; exact (HA1.out.far (by show g ≠ g + 2; omega) _)
  have HR2 : Hid (Blk W2 (g + 1) 25 [.int .i64 0, .string ⟨#[]⟩, .string ⟨#[]⟩, .int .i64 0, .int .i64 0, .int .i64 0, .int .u64 0, .int .i64 0, .slice none 0 0]) := by show Blk _ _ _ _; rw [hW]; exact (HR1.out.far (by show g + 1 ≠ g + 2; omega) _)
  have HB2 : Hid (Below w.heap.size w W2) := by show Below _ _ _; rw [hW]; exact (below_set1 HB1.out (Nat.le_trans HGG.out (by omega)) 2 (.string (strOf dest)))
  go_upto_region 6 with (fail)
  rw [← hW]
  clear hW HX1 HA1 HR1 HB1 a0 b2 x2 f2
  have a0 := HA2.out.cell 0
  go_wp2_with fail
  refine (r_hasFd 7 HKD.out _).mono ?_
  rintro e wq ⟨rfl, hq⟩
  rw [hq]
  clear hq wq
  rw [show hasFd 7 = false from rfl]
  go_upto_region 8 with (fail)
  clear a0
  have a0 := HA2.out.cell 0
  go_upto_region 10 with (fail)
  clear a0
  have a0 := HA2.out.cell 0
  go_wp2_with fail
  refine (r_hasTill 7 HKD.out _).mono ?_
  rintro e wq ⟨rfl, hq⟩
  rw [hq]
  clear hq wq
  rw [show hasTill 7 = false from rfl]
  go_upto_region 12 with (fail)
  clear a0
  have a0 := HA2.out.cell 0
  go_wp2_with fail
  refine (r_hasSnap 7 HKD.out _).mono ?_
  rintro e wq ⟨rfl, hq⟩
  rw [hq]
  clear hq wq
  rw [show hasSnap 7 = false from rfl]
  go_upto_region 14 with (fail)
  clear a0
  have a0 := HA2.out.cell 0
  go_upto_region 16 with (fail)
  clear a0
  have x0 := HX2.out.cell 0
  have r0 := HR2.out.cell 0
  have q0 := HR2.out.frozen 0
  have x1 := HX2.out.cell 1
  have r1 := HR2.out.cell 1
  have q1 := HR2.out.frozen 1
  have x2 := HX2.out.cell 2
  have r2 := HR2.out.cell 2
  have q2 := HR2.out.frozen 2
  have x3 := HX2.out.cell 3
  have r3 := HR2.out.cell 3
  have q3 := HR2.out.frozen 3
  have x4 := HX2.out.cell 4
  have r4 := HR2.out.cell 4
  have q4 := HR2.out.frozen 4
  have x5 := HX2.out.cell 5
  have r5 := HR2.out.cell 5
  have q5 := HR2.out.frozen 5
  have x6 := HX2.out.cell 6
  have r6 := HR2.out.cell 6
  have q6 := HR2.out.frozen 6
  have x7 := HX2.out.cell 7
  have r7 := HR2.out.cell 7
  have q7 := HR2.out.frozen 7
  have x8 := HX2.out.cell 8
  have r8 := HR2.out.cell 8
  have q8 := HR2.out.frozen 8
  go_wp2_with fail
  refine bodyPost_ret (results_blk1 rfl _ _ (g + 1) 25 _ _ rfl (set9_blk HR2.out _ _ _ _ _ _ _ _ _) rfl rfl rfl) rfl ⟨rfl, ?_⟩
  exact below_row9 HB2.out (Nat.le_trans HGG.out (by omega)) _ _ _ _ _ _ _ _ _
set_option maxHeartbeats 4000000 in
set_option maxRecDepth 100000 in
theorem asked_8 (path dest : List UInt8) (fd at_ n : Int) (till : Nat) (snap : Int) (data : List UInt8) (A : Option Addr) (c : Nat) (w : World) :
    Calls Try.prog 24 #[.agg #[.int .i64 8, .string (strOf path), .string (strOf dest), .int .i64 fd, .int .i64 at_, .int .i64 n, .int .u64 (till : Nat), .int .i64 snap, .slice A data.length c]] w fun e w' => e = .returned (.agg #[.int .i64 8, .string (strOf path), .string ⟨#[]⟩, .int .i64 0, .int .i64 0, .int .i64 0, .int .u64 0, .int .i64 0, .slice none 0 0]) ∧ Below w.heap.size w w' := by
  obtain ⟨WA, hWA⟩ : ∃ W, W = w.alloc (.cells #[.int .i64 8, .string (strOf path), .string (strOf dest), .int .i64 fd, .int .i64 at_, .int .i64 n, .int .u64 (till : Nat), .int .i64 snap, .slice A data.length c] 25) := ⟨_, rfl⟩
  obtain ⟨WR, hWR⟩ : ∃ W, W = WA.alloc (.cells #[.int .i64 0, .string ⟨#[]⟩, .string ⟨#[]⟩, .int .i64 0, .int .i64 0, .int .i64 0, .int .u64 0, .int .i64 0, .slice none 0 0] 25) := ⟨_, rfl⟩
  obtain ⟨WX, hWX⟩ : ∃ W, W = WR.alloc (.cells #[.int .i64 8, .string ⟨#[]⟩, .string ⟨#[]⟩, .int .i64 0, .int .i64 0, .int .i64 0, .int .u64 0, .int .i64 0, .slice none 0 0] 25) := ⟨_, rfl⟩
  obtain ⟨g, hg⟩ : ∃ x, x = w.heap.size := ⟨_, rfl⟩
  have hzA : WA.heap.size = g + 1 := by rw [hWA, World.size_alloc, hg]
  have hzR : WR.heap.size = g + 2 := by rw [hWR, World.size_alloc, hzA]
  have hA : Blk WA g 25 [.int .i64 8, .string (strOf path), .string (strOf dest), .int .i64 fd, .int .i64 at_, .int .i64 n, .int .u64 (till : Nat), .int .i64 snap, .slice A data.length c] := by rw [hWA, hg]; exact Blk.new w _ _
  have hR : Blk WR (g + 1) 25 [.int .i64 0, .string ⟨#[]⟩, .string ⟨#[]⟩, .int .i64 0, .int .i64 0, .int .i64 0, .int .u64 0, .int .i64 0, .slice none 0 0] := by rw [hWR, ← hzA]; exact Blk.new WA _ _
  have hb2 : Below WA.heap.size WA WR := by rw [hWR]; exact below_new WA _
  have hb3 : Below WR.heap.size WR WX := by rw [hWX]; exact below_new WR _
  have HA : Hid (Blk WX g 25 [.int .i64 8, .string (strOf path), .string (strOf dest), .int .i64 fd, .int .i64 at_, .int .i64 n, .int .u64 (till : Nat), .int .i64 snap, .slice A data.length c]) := (hA.below hb2 hA.lt).below hb3 (hA.below hb2 hA.lt).lt
  have HR : Hid (Blk WX (g + 1) 25 [.int .i64 0, .string ⟨#[]⟩, .string ⟨#[]⟩, .int .i64 0, .int .i64 0, .int .i64 0, .int .u64 0, .int .i64 0, .slice none 0 0]) := hR.below hb3 hR.lt
  have HX0 : Hid (Blk WX (g + 2) 25 [.int .i64 8, .string ⟨#[]⟩, .string ⟨#[]⟩, .int .i64 0, .int .i64 0, .int .i64 0, .int .u64 0, .int .i64 0, .slice none 0 0]) := by show Blk _ _ _ _; rw [hWX, ← hzR]; exact Blk.new WR _ _
  have HB : Hid (Below w.heap.size w WX) := by
    have hb1 : Below w.heap.size w WA := by rw [hWA]; exact below_new w _
    exact (hb1.trans (hb2.mono hb1.size)).trans (hb3.mono (Nat.le_trans hb1.size hb2.size))
  have HGG : Hid (w.heap.size ≤ g) := Nat.le_of_eq hg.symm
  clear hA hR hb2 hb3 hzA hzR
  go_enter Try.func24, Try.ntmps24
  go_upto_region 2 with (fail)
  rw [← hWA, ← hWR, ← hWX, ← hg]
  try rw [show g + 1 + 1 = g + 2 from rfl]
  clear hWA hWR hWX hg
  have hkd : Kd 8 := by decide
  have HKD := Lib.hid hkd
  clear hkd
  have a0 := HA.out.cell 0
  go_wp2_with fail
  refine (r_hasPath 8 HKD.out _).mono ?_
  rintro e wq ⟨rfl, hq⟩
  rw [hq]
  clear hq wq
  rw [show hasPath 8 = true from rfl]
  have b1 := HA.out.cell 1
  have x1 := HX0.out.cell 1
  have f1 := HX0.out.frozen 1
  obtain ⟨W1, hW⟩ : ∃ W, W = (WX.setCell ⟨g + 2, 1, none⟩ (.string (strOf path))) := ⟨_, rfl⟩
  have HX1 : Hid (Blk W1 (g + 2) 25 [.int .i64 8, .string (strOf path), .string ⟨#[]⟩, .int .i64 0, .int .i64 0, .int .i64 0, .int .u64 0, .int .i64 0, .slice none 0 0]) := by show Blk _ _ _ _; rw [hW]; exact (HX0.out.set_ 1 (.string (strOf path)))
  have HA1 : Hid (Blk W1 g 25 [.int .i64 8, .string (strOf path), .string (strOf dest), .int .i64 fd, .int .i64 at_, .int .i64 n, .int .u64 (till : Nat), .int .i64 snap, .slice A data.length c]) := by show Blk _ _ _ _; rw [hW]; exact (HA.out.far (by show g ≠ g + 2; omega) _)
  have HR1 : Hid (Blk W1 (g + 1) 25 [.int .i64 0, .string ⟨#[]⟩, .string ⟨#[]⟩, .int .i64 0, .int .i64 0, .int .i64 0, .int .u64 0, .int .i64 0, .slice none 0 0]) := by show Blk _ _ _ _; rw [hW]; exact (HR.out.far (by show g + 1 ≠ g + 2; omega) _)
  have HB1 : Hid (Below w.heap.size w W1) := by show Below _ _ _; rw [hW]; exact (below_set1 HB.out (Nat.le_trans HGG.out (by omega)) 1 (.string (strOf path)))
  go_upto_region 4 with (fail)
  rw [← hW]
  clear hW HX0 HA HR HB a0 b1 x1 f1
  have a0 := HA1.out.cell 0
  go_wp2_with fail
  refine (r_hasTo 8 HKD.out _).mono ?_
  rintro e wq ⟨rfl, hq⟩
  rw [hq]
  clear hq wq
  rw [show hasTo 8 = false from rfl]
  go_upto_region 6 with (fail)
  clear a0
  have a0 := HA1.out.cell 0
  go_wp2_with fail
  refine (r_hasFd 8 HKD.out _).mono ?_
  rintro e wq ⟨rfl, hq⟩
  rw [hq]
  clear hq wq
  rw [show hasFd 8 = false from rfl]
  go_upto_region 8 with (fail)
  clear a0
  have a0 := HA1.out.cell 0
  go_upto_region 10 with (fail)
  clear a0
  have a0 := HA1.out.cell 0
  go_wp2_with fail
  refine (r_hasTill 8 HKD.out _).mono ?_
  rintro e wq ⟨rfl, hq⟩
  rw [hq]
  clear hq wq
  rw [show hasTill 8 = false from rfl]
  go_upto_region 12 with (fail)
  clear a0
  have a0 := HA1.out.cell 0
  go_wp2_with fail
  refine (r_hasSnap 8 HKD.out _).mono ?_
  rintro e wq ⟨rfl, hq⟩
  rw [hq]
  clear hq wq
  rw [show hasSnap 8 = false from rfl]
  go_upto_region 14 with (fail)
  clear a0
  have a0 := HA1.out.cell 0
  go_upto_region 16 with (fail)
  clear a0
  have x0 := HX1.out.cell 0
  have r0 := HR1.out.cell 0
  have q0 := HR1.out.frozen 0
  have x1 := HX1.out.cell 1
  have r1 := HR1.out.cell 1
  have q1 := HR1.out.frozen 1
  have x2 := HX1.out.cell 2
  have r2 := HR1.out.cell 2
  have q2 := HR1.out.frozen 2
  have x3 := HX1.out.cell 3
  have r3 := HR1.out.cell 3
  have q3 := HR1.out.frozen 3
  have x4 := HX1.out.cell 4
  have r4 := HR1.out.cell 4
  have q4 := HR1.out.frozen 4
  have x5 := HX1.out.cell 5
  have r5 := HR1.out.cell 5
  have q5 := HR1.out.frozen 5
  have x6 := HX1.out.cell 6
  have r6 := HR1.out.cell 6
  have q6 := HR1.out.frozen 6
  have x7 := HX1.out.cell 7
  have r7 := HR1.out.cell 7
  have q7 := HR1.out.frozen 7
  have x8 := HX1.out.cell 8
  have r8 := HR1.out.cell 8
  have q8 := HR1.out.frozen 8
  go_wp2_with fail
  refine bodyPost_ret (results_blk1 rfl _ _ (g + 1) 25 _ _ rfl (set9_blk HR1.out _ _ _ _ _ _ _ _ _) rfl rfl rfl) rfl ⟨rfl, ?_⟩
  exact below_row9 HB1.out (Nat.le_trans HGG.out (by omega)) _ _ _ _ _ _ _ _ _
set_option maxHeartbeats 4000000 in
set_option maxRecDepth 100000 in
theorem asked_9 (path dest : List UInt8) (fd at_ n : Int) (till : Nat) (snap : Int) (data : List UInt8) (A : Option Addr) (c : Nat) (w : World) :
    Calls Try.prog 24 #[.agg #[.int .i64 9, .string (strOf path), .string (strOf dest), .int .i64 fd, .int .i64 at_, .int .i64 n, .int .u64 (till : Nat), .int .i64 snap, .slice A data.length c]] w fun e w' => e = .returned (.agg #[.int .i64 9, .string (strOf path), .string ⟨#[]⟩, .int .i64 0, .int .i64 0, .int .i64 0, .int .u64 0, .int .i64 0, .slice none 0 0]) ∧ Below w.heap.size w w' := by
  obtain ⟨WA, hWA⟩ : ∃ W, W = w.alloc (.cells #[.int .i64 9, .string (strOf path), .string (strOf dest), .int .i64 fd, .int .i64 at_, .int .i64 n, .int .u64 (till : Nat), .int .i64 snap, .slice A data.length c] 25) := ⟨_, rfl⟩
  obtain ⟨WR, hWR⟩ : ∃ W, W = WA.alloc (.cells #[.int .i64 0, .string ⟨#[]⟩, .string ⟨#[]⟩, .int .i64 0, .int .i64 0, .int .i64 0, .int .u64 0, .int .i64 0, .slice none 0 0] 25) := ⟨_, rfl⟩
  obtain ⟨WX, hWX⟩ : ∃ W, W = WR.alloc (.cells #[.int .i64 9, .string ⟨#[]⟩, .string ⟨#[]⟩, .int .i64 0, .int .i64 0, .int .i64 0, .int .u64 0, .int .i64 0, .slice none 0 0] 25) := ⟨_, rfl⟩
  obtain ⟨g, hg⟩ : ∃ x, x = w.heap.size := ⟨_, rfl⟩
  have hzA : WA.heap.size = g + 1 := by rw [hWA, World.size_alloc, hg]
  have hzR : WR.heap.size = g + 2 := by rw [hWR, World.size_alloc, hzA]
  have hA : Blk WA g 25 [.int .i64 9, .string (strOf path), .string (strOf dest), .int .i64 fd, .int .i64 at_, .int .i64 n, .int .u64 (till : Nat), .int .i64 snap, .slice A data.length c] := by rw [hWA, hg]; exact Blk.new w _ _
  have hR : Blk WR (g + 1) 25 [.int .i64 0, .string ⟨#[]⟩, .string ⟨#[]⟩, .int .i64 0, .int .i64 0, .int .i64 0, .int .u64 0, .int .i64 0, .slice none 0 0] := by rw [hWR, ← hzA]; exact Blk.new WA _ _
  have hb2 : Below WA.heap.size WA WR := by rw [hWR]; exact below_new WA _
  have hb3 : Below WR.heap.size WR WX := by rw [hWX]; exact below_new WR _
  have HA : Hid (Blk WX g 25 [.int .i64 9, .string (strOf path), .string (strOf dest), .int .i64 fd, .int .i64 at_, .int .i64 n, .int .u64 (till : Nat), .int .i64 snap, .slice A data.length c]) := (hA.below hb2 hA.lt).below hb3 (hA.below hb2 hA.lt).lt
  have HR : Hid (Blk WX (g + 1) 25 [.int .i64 0, .string ⟨#[]⟩, .string ⟨#[]⟩, .int .i64 0, .int .i64 0, .int .i64 0, .int .u64 0, .int .i64 0, .slice none 0 0]) := hR.below hb3 hR.lt
  have HX0 : Hid (Blk WX (g + 2) 25 [.int .i64 9, .string ⟨#[]⟩, .string ⟨#[]⟩, .int .i64 0, .int .i64 0, .int .i64 0, .int .u64 0, .int .i64 0, .slice none 0 0]) := by show Blk _ _ _ _; rw [hWX, ← hzR]; exact Blk.new WR _ _
  have HB : Hid (Below w.heap.size w WX) := by
    have hb1 : Below w.heap.size w WA := by rw [hWA]; exact below_new w _
    exact (hb1.trans (hb2.mono hb1.size)).trans (hb3.mono (Nat.le_trans hb1.size hb2.size))
  have HGG : Hid (w.heap.size ≤ g) := Nat.le_of_eq hg.symm
  clear hA hR hb2 hb3 hzA hzR
  go_enter Try.func24, Try.ntmps24
  go_upto_region 2 with (fail)
  rw [← hWA, ← hWR, ← hWX, ← hg]
  try rw [show g + 1 + 1 = g + 2 from rfl]
  clear hWA hWR hWX hg
  have hkd : Kd 9 := by decide
  have HKD := Lib.hid hkd
  clear hkd
  have a0 := HA.out.cell 0
  go_wp2_with fail
  refine (r_hasPath 9 HKD.out _).mono ?_
  rintro e wq ⟨rfl, hq⟩
  rw [hq]
  clear hq wq
  rw [show hasPath 9 = true from rfl]
  have b1 := HA.out.cell 1
  have x1 := HX0.out.cell 1
  have f1 := HX0.out.frozen 1
  obtain ⟨W1, hW⟩ : ∃ W, W = (WX.setCell ⟨g + 2, 1, none⟩ (.string (strOf path))) := ⟨_, rfl⟩
  have HX1 : Hid (Blk W1 (g + 2) 25 [.int .i64 9, .string (strOf path), .string ⟨#[]⟩, .int .i64 0, .int .i64 0, .int .i64 0, .int .u64 0, .int .i64 0, .slice none 0 0]) := by show Blk _ _ _ _; rw [hW]; exact (HX0.out.set_ 1 (.string (strOf path)))
  have HA1 : Hid (Blk W1 g 25 [.int .i64 9, .string (strOf path), .string (strOf dest), .int .i64 fd, .int .i64 at_, .int .i64 n, .int .u64 (till : Nat), .int .i64 snap, .slice A data.length c]) := by show Blk _ _ _ _; rw [hW]; exact (HA.out.far (by show g ≠ g + 2; omega) _)
  have HR1 : Hid (Blk W1 (g + 1) 25 [.int .i64 0, .string ⟨#[]⟩, .string ⟨#[]⟩, .int .i64 0, .int .i64 0, .int .i64 0, .int .u64 0, .int .i64 0, .slice none 0 0]) := by show Blk _ _ _ _; rw [hW]; exact (HR.out.far (by show g + 1 ≠ g + 2; omega) _)
  have HB1 : Hid (Below w.heap.size w W1) := by show Below _ _ _; rw [hW]; exact (below_set1 HB.out (Nat.le_trans HGG.out (by omega)) 1 (.string (strOf path)))
  go_upto_region 4 with (fail)
  rw [← hW]
  clear hW HX0 HA HR HB a0 b1 x1 f1
  have a0 := HA1.out.cell 0
  go_wp2_with fail
  refine (r_hasTo 9 HKD.out _).mono ?_
  rintro e wq ⟨rfl, hq⟩
  rw [hq]
  clear hq wq
  rw [show hasTo 9 = false from rfl]
  go_upto_region 6 with (fail)
  clear a0
  have a0 := HA1.out.cell 0
  go_wp2_with fail
  refine (r_hasFd 9 HKD.out _).mono ?_
  rintro e wq ⟨rfl, hq⟩
  rw [hq]
  clear hq wq
  rw [show hasFd 9 = false from rfl]
  go_upto_region 8 with (fail)
  clear a0
  have a0 := HA1.out.cell 0
  go_upto_region 10 with (fail)
  clear a0
  have a0 := HA1.out.cell 0
  go_wp2_with fail
  refine (r_hasTill 9 HKD.out _).mono ?_
  rintro e wq ⟨rfl, hq⟩
  rw [hq]
  clear hq wq
  rw [show hasTill 9 = false from rfl]
  go_upto_region 12 with (fail)
  clear a0
  have a0 := HA1.out.cell 0
  go_wp2_with fail
  refine (r_hasSnap 9 HKD.out _).mono ?_
  rintro e wq ⟨rfl, hq⟩
  rw [hq]
  clear hq wq
  rw [show hasSnap 9 = false from rfl]
  go_upto_region 14 with (fail)
  clear a0
  have a0 := HA1.out.cell 0
  go_upto_region 16 with (fail)
  clear a0
  have x0 := HX1.out.cell 0
  have r0 := HR1.out.cell 0
  have q0 := HR1.out.frozen 0
  have x1 := HX1.out.cell 1
  have r1 := HR1.out.cell 1
  have q1 := HR1.out.frozen 1
  have x2 := HX1.out.cell 2
  have r2 := HR1.out.cell 2
  have q2 := HR1.out.frozen 2
  have x3 := HX1.out.cell 3
  have r3 := HR1.out.cell 3
  have q3 := HR1.out.frozen 3
  have x4 := HX1.out.cell 4
  have r4 := HR1.out.cell 4
  have q4 := HR1.out.frozen 4
  have x5 := HX1.out.cell 5
  have r5 := HR1.out.cell 5
  have q5 := HR1.out.frozen 5
  have x6 := HX1.out.cell 6
  have r6 := HR1.out.cell 6
  have q6 := HR1.out.frozen 6
  have x7 := HX1.out.cell 7
  have r7 := HR1.out.cell 7
  have q7 := HR1.out.frozen 7
  have x8 := HX1.out.cell 8
  have r8 := HR1.out.cell 8
  have q8 := HR1.out.frozen 8
  go_wp2_with fail
  refine bodyPost_ret (results_blk1 rfl _ _ (g + 1) 25 _ _ rfl (set9_blk HR1.out _ _ _ _ _ _ _ _ _) rfl rfl rfl) rfl ⟨rfl, ?_⟩
  exact below_row9 HB1.out (Nat.le_trans HGG.out (by omega)) _ _ _ _ _ _ _ _ _
set_option maxHeartbeats 4000000 in
set_option maxRecDepth 100000 in
theorem asked_10 (path dest : List UInt8) (fd at_ n : Int) (till : Nat) (snap : Int) (data : List UInt8) (A : Option Addr) (c : Nat) (w : World) :
    Calls Try.prog 24 #[.agg #[.int .i64 10, .string (strOf path), .string (strOf dest), .int .i64 fd, .int .i64 at_, .int .i64 n, .int .u64 (till : Nat), .int .i64 snap, .slice A data.length c]] w fun e w' => e = .returned (.agg #[.int .i64 10, .string (strOf path), .string (strOf dest), .int .i64 0, .int .i64 0, .int .i64 0, .int .u64 0, .int .i64 0, .slice none 0 0]) ∧ Below w.heap.size w w' := by
  obtain ⟨WA, hWA⟩ : ∃ W, W = w.alloc (.cells #[.int .i64 10, .string (strOf path), .string (strOf dest), .int .i64 fd, .int .i64 at_, .int .i64 n, .int .u64 (till : Nat), .int .i64 snap, .slice A data.length c] 25) := ⟨_, rfl⟩
  obtain ⟨WR, hWR⟩ : ∃ W, W = WA.alloc (.cells #[.int .i64 0, .string ⟨#[]⟩, .string ⟨#[]⟩, .int .i64 0, .int .i64 0, .int .i64 0, .int .u64 0, .int .i64 0, .slice none 0 0] 25) := ⟨_, rfl⟩
  obtain ⟨WX, hWX⟩ : ∃ W, W = WR.alloc (.cells #[.int .i64 10, .string ⟨#[]⟩, .string ⟨#[]⟩, .int .i64 0, .int .i64 0, .int .i64 0, .int .u64 0, .int .i64 0, .slice none 0 0] 25) := ⟨_, rfl⟩
  obtain ⟨g, hg⟩ : ∃ x, x = w.heap.size := ⟨_, rfl⟩
  have hzA : WA.heap.size = g + 1 := by rw [hWA, World.size_alloc, hg]
  have hzR : WR.heap.size = g + 2 := by rw [hWR, World.size_alloc, hzA]
  have hA : Blk WA g 25 [.int .i64 10, .string (strOf path), .string (strOf dest), .int .i64 fd, .int .i64 at_, .int .i64 n, .int .u64 (till : Nat), .int .i64 snap, .slice A data.length c] := by rw [hWA, hg]; exact Blk.new w _ _
  have hR : Blk WR (g + 1) 25 [.int .i64 0, .string ⟨#[]⟩, .string ⟨#[]⟩, .int .i64 0, .int .i64 0, .int .i64 0, .int .u64 0, .int .i64 0, .slice none 0 0] := by rw [hWR, ← hzA]; exact Blk.new WA _ _
  have hb2 : Below WA.heap.size WA WR := by rw [hWR]; exact below_new WA _
  have hb3 : Below WR.heap.size WR WX := by rw [hWX]; exact below_new WR _
  have HA : Hid (Blk WX g 25 [.int .i64 10, .string (strOf path), .string (strOf dest), .int .i64 fd, .int .i64 at_, .int .i64 n, .int .u64 (till : Nat), .int .i64 snap, .slice A data.length c]) := (hA.below hb2 hA.lt).below hb3 (hA.below hb2 hA.lt).lt
  have HR : Hid (Blk WX (g + 1) 25 [.int .i64 0, .string ⟨#[]⟩, .string ⟨#[]⟩, .int .i64 0, .int .i64 0, .int .i64 0, .int .u64 0, .int .i64 0, .slice none 0 0]) := hR.below hb3 hR.lt
  have HX0 : Hid (Blk WX (g + 2) 25 [.int .i64 10, .string ⟨#[]⟩, .string ⟨#[]⟩, .int .i64 0, .int .i64 0, .int .i64 0, .int .u64 0, .int .i64 0, .slice none 0 0]) := by show Blk _ _ _ _; rw [hWX, ← hzR]; exact Blk.new WR _ _
  have HB : Hid (Below w.heap.size w WX) := by
    have hb1 : Below w.heap.size w WA := by rw [hWA]; exact below_new w _
    exact (hb1.trans (hb2.mono hb1.size)).trans (hb3.mono (Nat.le_trans hb1.size hb2.size))
  have HGG : Hid (w.heap.size ≤ g) := Nat.le_of_eq hg.symm
  clear hA hR hb2 hb3 hzA hzR
  go_enter Try.func24, Try.ntmps24
  go_upto_region 2 with (fail)
  rw [← hWA, ← hWR, ← hWX, ← hg]
  try rw [show g + 1 + 1 = g + 2 from rfl]
  clear hWA hWR hWX hg
  have hkd : Kd 10 := by decide
  have HKD := Lib.hid hkd
  clear hkd
  have a0 := HA.out.cell 0
  go_wp2_with fail
  refine (r_hasPath 10 HKD.out _).mono ?_
  rintro e wq ⟨rfl, hq⟩
  rw [hq]
  clear hq wq
  rw [show hasPath 10 = true from rfl]
  have b1 := HA.out.cell 1
  have x1 := HX0.out.cell 1
  have f1 := HX0.out.frozen 1
  obtain ⟨W1, hW⟩ : ∃ W, W = (WX.setCell ⟨g + 2, 1, none⟩ (.string (strOf path))) := ⟨_, rfl⟩
  have HX1 : Hid (Blk W1 (g + 2) 25 [.int .i64 10, .string (strOf path), .string ⟨#[]⟩, .int .i64 0, .int .i64 0, .int .i64 0, .int .u64 0, .int .i64 0, .slice none 0 0]) := by show Blk _ _ _ _; rw [hW]; exact (HX0.out.set_ 1 (.string (strOf path)))
  have HA1 : Hid (Blk W1 g 25 [.int .i64 10, .string (strOf path), .string (strOf dest), .int .i64 fd, .int .i64 at_, .int .i64 n, .int .u64 (till : Nat), .int .i64 snap, .slice A data.length c]) := by show Blk _ _ _ _; rw [hW]; exact (HA.out.far (by show g ≠ g + 2; omega) _)
  have HR1 : Hid (Blk W1 (g + 1) 25 [.int .i64 0, .string ⟨#[]⟩, .string ⟨#[]⟩, .int .i64 0, .int .i64 0, .int .i64 0, .int .u64 0, .int .i64 0, .slice none 0 0]) := by show Blk _ _ _ _; rw [hW]; exact (HR.out.far (by show g + 1 ≠ g + 2; omega) _)
  have HB1 : Hid (Below w.heap.size w W1) := by show Below _ _ _; rw [hW]; exact (below_set1 HB.out (Nat.le_trans HGG.out (by omega)) 1 (.string (strOf path)))
  go_upto_region 4 with (fail)
  rw [← hW]
  clear hW HX0 HA HR HB a0 b1 x1 f1
  have a0 := HA1.out.cell 0
  go_wp2_with fail
  refine (r_hasTo 10 HKD.out _).mono ?_
  rintro e wq ⟨rfl, hq⟩
  rw [hq]
  clear hq wq
  rw [show hasTo 10 = true from rfl]
  have b2 := HA1.out.cell 2
  have x2 := HX1.out.cell 2
  have f2 := HX1.out.frozen 2
  obtain ⟨W2, hW⟩ : ∃ W, W = (W1.setCell ⟨g + 2, 2, none⟩ (.string (strOf dest))) := ⟨_, rfl⟩
  have HX2 : Hid (Blk W2 (g + 2) 25 [.int .i64 10, .string (strOf path), .string (strOf dest), .int .i64 0, .int .i64 0, .int .i64 0, .int .u64 0, .int .i64 0, .slice none 0 0]) := by show Blk _ _ _ _; rw [hW]; exact (HX1.out.set_ 2 (.string (strOf dest)))
  have HA2 : Hid (Blk W2 g 25 [.int .i64 10, .string (strOf path), .string (strOf dest), .int .i64 fd, .int .i64 at_, .int .i64 n, .int .u64 (till : Nat), .int .i64 snap, .slice A data.length c]) := by show Blk _ _ _ _; rw [hW]; exact (HA1.out.far (by show g ≠ g + 2; omega) _)
  have HR2 : Hid (Blk W2 (g + 1) 25 [.int .i64 0, .string ⟨#[]⟩, .string ⟨#[]⟩, .int .i64 0, .int .i64 0, .int .i64 0, .int .u64 0, .int .i64 0, .slice none 0 0]) := by show Blk _ _ _ _; rw [hW]; exact (HR1.out.far (by show g + 1 ≠ g + 2; omega) _)
  have HB2 : Hid (Below w.heap.size w W2) := by show Below _ _ _; rw [hW]; exact (below_set1 HB1.out (Nat.le_trans HGG.out (by omega)) 2 (.string (strOf dest)))
  go_upto_region 6 with (fail)
  rw [← hW]
  clear hW HX1 HA1 HR1 HB1 a0 b2 x2 f2
  have a0 := HA2.out.cell 0
  go_wp2_with fail
  refine (r_hasFd 10 HKD.out _).mono ?_
  rintro e wq ⟨rfl, hq⟩
  rw [hq]
  clear hq wq
  rw [show hasFd 10 = false from rfl]
  go_upto_region 8 with (fail)
  clear a0
  have a0 := HA2.out.cell 0
  go_upto_region 10 with (fail)
  clear a0
  have a0 := HA2.out.cell 0
  go_wp2_with fail
  refine (r_hasTill 10 HKD.out _).mono ?_
  rintro e wq ⟨rfl, hq⟩
  rw [hq]
  clear hq wq
  rw [show hasTill 10 = false from rfl]
  go_upto_region 12 with (fail)
  clear a0
  have a0 := HA2.out.cell 0
  go_wp2_with fail
  refine (r_hasSnap 10 HKD.out _).mono ?_
  rintro e wq ⟨rfl, hq⟩
  rw [hq]
  clear hq wq
  rw [show hasSnap 10 = false from rfl]
  go_upto_region 14 with (fail)
  clear a0
  have a0 := HA2.out.cell 0
  go_upto_region 16 with (fail)
  clear a0
  have x0 := HX2.out.cell 0
  have r0 := HR2.out.cell 0
  have q0 := HR2.out.frozen 0
  have x1 := HX2.out.cell 1
  have r1 := HR2.out.cell 1
  have q1 := HR2.out.frozen 1
  have x2 := HX2.out.cell 2
  have r2 := HR2.out.cell 2
  have q2 := HR2.out.frozen 2
  have x3 := HX2.out.cell 3
  have r3 := HR2.out.cell 3
  have q3 := HR2.out.frozen 3
  have x4 := HX2.out.cell 4
  have r4 := HR2.out.cell 4
  have q4 := HR2.out.frozen 4
  have x5 := HX2.out.cell 5
  have r5 := HR2.out.cell 5
  have q5 := HR2.out.frozen 5
  have x6 := HX2.out.cell 6
  have r6 := HR2.out.cell 6
  have q6 := HR2.out.frozen 6
  have x7 := HX2.out.cell 7
  have r7 := HR2.out.cell 7
  have q7 := HR2.out.frozen 7
  have x8 := HX2.out.cell 8
  have r8 := HR2.out.cell 8
  have q8 := HR2.out.frozen 8
  go_wp2_with fail
  refine bodyPost_ret (results_blk1 rfl _ _ (g + 1) 25 _ _ rfl (set9_blk HR2.out _ _ _ _ _ _ _ _ _) rfl rfl rfl) rfl ⟨rfl, ?_⟩
  exact below_row9 HB2.out (Nat.le_trans HGG.out (by omega)) _ _ _ _ _ _ _ _ _
set_option maxHeartbeats 4000000 in
set_option maxRecDepth 100000 in
theorem asked_11 (path dest : List UInt8) (fd at_ n : Int) (till : Nat) (snap : Int) (data : List UInt8) (A : Option Addr) (c : Nat) (w : World) :
    Calls Try.prog 24 #[.agg #[.int .i64 11, .string (strOf path), .string (strOf dest), .int .i64 fd, .int .i64 at_, .int .i64 n, .int .u64 (till : Nat), .int .i64 snap, .slice A data.length c]] w fun e w' => e = .returned (.agg #[.int .i64 11, .string (strOf path), .string ⟨#[]⟩, .int .i64 0, .int .i64 0, .int .i64 0, .int .u64 0, .int .i64 snap, .slice none 0 0]) ∧ Below w.heap.size w w' := by
  obtain ⟨WA, hWA⟩ : ∃ W, W = w.alloc (.cells #[.int .i64 11, .string (strOf path), .string (strOf dest), .int .i64 fd, .int .i64 at_, .int .i64 n, .int .u64 (till : Nat), .int .i64 snap, .slice A data.length c] 25) := ⟨_, rfl⟩
  obtain ⟨WR, hWR⟩ : ∃ W, W = WA.alloc (.cells #[.int .i64 0, .string ⟨#[]⟩, .string ⟨#[]⟩, .int .i64 0, .int .i64 0, .int .i64 0, .int .u64 0, .int .i64 0, .slice none 0 0] 25) := ⟨_, rfl⟩
  obtain ⟨WX, hWX⟩ : ∃ W, W = WR.alloc (.cells #[.int .i64 11, .string ⟨#[]⟩, .string ⟨#[]⟩, .int .i64 0, .int .i64 0, .int .i64 0, .int .u64 0, .int .i64 0, .slice none 0 0] 25) := ⟨_, rfl⟩
  obtain ⟨g, hg⟩ : ∃ x, x = w.heap.size := ⟨_, rfl⟩
  have hzA : WA.heap.size = g + 1 := by rw [hWA, World.size_alloc, hg]
  have hzR : WR.heap.size = g + 2 := by rw [hWR, World.size_alloc, hzA]
  have hA : Blk WA g 25 [.int .i64 11, .string (strOf path), .string (strOf dest), .int .i64 fd, .int .i64 at_, .int .i64 n, .int .u64 (till : Nat), .int .i64 snap, .slice A data.length c] := by rw [hWA, hg]; exact Blk.new w _ _
  have hR : Blk WR (g + 1) 25 [.int .i64 0, .string ⟨#[]⟩, .string ⟨#[]⟩, .int .i64 0, .int .i64 0, .int .i64 0, .int .u64 0, .int .i64 0, .slice none 0 0] := by rw [hWR, ← hzA]; exact Blk.new WA _ _
  have hb2 : Below WA.heap.size WA WR := by rw [hWR]; exact below_new WA _
  have hb3 : Below WR.heap.size WR WX := by rw [hWX]; exact below_new WR _
  have HA : Hid (Blk WX g 25 [.int .i64 11, .string (strOf path), .string (strOf dest), .int .i64 fd, .int .i64 at_, .int .i64 n, .int .u64 (till : Nat), .int .i64 snap, .slice A data.length c]) := (hA.below hb2 hA.lt).below hb3 (hA.below hb2 hA.lt).lt
  have HR : Hid (Blk WX (g + 1) 25 [.int .i64 0, .string ⟨#[]⟩, .string ⟨#[]⟩, .int .i64 0, .int .i64 0, .int .i64 0, .int .u64 0, .int .i64 0, .slice none 0 0]) := hR.below hb3 hR.lt
  have HX0 : Hid (Blk WX (g + 2) 25 [.int .i64 11, .string ⟨#[]⟩, .string ⟨#[]⟩, .int .i64 0, .int .i64 0, .int .i64 0, .int .u64 0, .int .i64 0, .slice none 0 0]) := by show Blk _ _ _ _; rw [hWX, ← hzR]; exact Blk.new WR _ _
  have HB : Hid (Below w.heap.size w WX) := by
    have hb1 : Below w.heap.size w WA := by rw [hWA]; exact below_new w _
    exact (hb1.trans (hb2.mono hb1.size)).trans (hb3.mono (Nat.le_trans hb1.size hb2.size))
  have HGG : Hid (w.heap.size ≤ g) := Nat.le_of_eq hg.symm
  clear hA hR hb2 hb3 hzA hzR
  go_enter Try.func24, Try.ntmps24
  go_upto_region 2 with (fail)
  rw [← hWA, ← hWR, ← hWX, ← hg]
  try rw [show g + 1 + 1 = g + 2 from rfl]
  clear hWA hWR hWX hg
  have hkd : Kd 11 := by decide
  have HKD := Lib.hid hkd
  clear hkd
  have a0 := HA.out.cell 0
  go_wp2_with fail
  refine (r_hasPath 11 HKD.out _).mono ?_
  rintro e wq ⟨rfl, hq⟩
  rw [hq]
  clear hq wq
  rw [show hasPath 11 = true from rfl]
  have b1 := HA.out.cell 1
  have x1 := HX0.out.cell 1
  have f1 := HX0.out.frozen 1
  obtain ⟨W1, hW⟩ : ∃ W, W = (WX.setCell ⟨g + 2, 1, none⟩ (.string (strOf path))) := ⟨_, rfl⟩
  have HX1 : Hid (Blk W1 (g + 2) 25 [.int .i64 11, .string (strOf path), .string ⟨#[]⟩, .int .i64 0, .int .i64 0, .int .i64 0, .int .u64 0, .int .i64 0, .slice none 0 0]) := by show Blk _ _ _ _; rw [hW]; exact (HX0.out.set_ 1 (.string (strOf path)))
  have HA1 : Hid (Blk W1 g 25 [.int .i64 11, .string (strOf path), .string (strOf dest), .int .i64 fd, .int .i64 at_, .int .i64 n, .int .u64 (till : Nat), .int .i64 snap, .slice A data.length c]) := by show Blk _ _ _ _; rw [hW]; exact (HA.out.far (by show g ≠ g + 2; omega) _)
  have HR1 : Hid (Blk W1 (g + 1) 25 [.int .i64 0, .string ⟨#[]⟩, .string ⟨#[]⟩, .int .i64 0, .int .i64 0, .int .i64 0, .int .u64 0, .int .i64 0, .slice none 0 0]) := by show Blk _ _ _ _; rw [hW]; exact (HR.out.far (by show g + 1 ≠ g + 2; omega) _)
  have HB1 : Hid (Below w.heap.size w W1) := by show Below _ _ _; rw [hW]; exact (below_set1 HB.out (Nat.le_trans HGG.out (by omega)) 1 (.string (strOf path)))
  go_upto_region 4 with (fail)
  rw [← hW]
  clear hW HX0 HA HR HB a0 b1 x1 f1
  have a0 := HA1.out.cell 0
  go_wp2_with fail
  refine (r_hasTo 11 HKD.out _).mono ?_
  rintro e wq ⟨rfl, hq⟩
  rw [hq]
  clear hq wq
  rw [show hasTo 11 = false from rfl]
  go_upto_region 6 with (fail)
  clear a0
  have a0 := HA1.out.cell 0
  go_wp2_with fail
  refine (r_hasFd 11 HKD.out _).mono ?_
  rintro e wq ⟨rfl, hq⟩
  rw [hq]
  clear hq wq
  rw [show hasFd 11 = false from rfl]
  go_upto_region 8 with (fail)
  clear a0
  have a0 := HA1.out.cell 0
  go_upto_region 10 with (fail)
  clear a0
  have a0 := HA1.out.cell 0
  go_wp2_with fail
  refine (r_hasTill 11 HKD.out _).mono ?_
  rintro e wq ⟨rfl, hq⟩
  rw [hq]
  clear hq wq
  rw [show hasTill 11 = false from rfl]
  go_upto_region 12 with (fail)
  clear a0
  have a0 := HA1.out.cell 0
  go_wp2_with fail
  refine (r_hasSnap 11 HKD.out _).mono ?_
  rintro e wq ⟨rfl, hq⟩
  rw [hq]
  clear hq wq
  rw [show hasSnap 11 = true from rfl]
  have b7 := HA1.out.cell 7
  have x7 := HX1.out.cell 7
  have f7 := HX1.out.frozen 7
  obtain ⟨W2, hW⟩ : ∃ W, W = (W1.setCell ⟨g + 2, 7, none⟩ (.int .i64 snap)) := ⟨_, rfl⟩
  have HX2 : Hid (Blk W2 (g + 2) 25 [.int .i64 11, .string (strOf path), .string ⟨#[]⟩, .int .i64 0, .int .i64 0, .int .i64 0, .int .u64 0, .int .i64 snap, .slice none 0 0]) := by show Blk _ _ _ _; rw [hW]; exact (HX1.out.set_ 7 (.int .i64 snap))
  have HA2 : Hid (Blk W2 g 25 [.int .i64 11, .string (strOf path), .string (strOf dest), .int .i64 fd, .int .i64 at_, .int .i64 n, .int .u64 (till : Nat), .int .i64 snap, .slice A data.length c]) := by show Blk _ _ _ _; rw [hW]; exact (HA1.out.far (by show g ≠ g + 2; omega) _)
  have HR2 : Hid (Blk W2 (g + 1) 25 [.int .i64 0, .string ⟨#[]⟩, .string ⟨#[]⟩, .int .i64 0, .int .i64 0, .int .i64 0, .int .u64 0, .int .i64 0, .slice none 0 0]) := by show Blk _ _ _ _; rw [hW]; exact (HR1.out.far (by show g + 1 ≠ g + 2; omega) _)
  have HB2 : Hid (Below w.heap.size w W2) := by show Below _ _ _; rw [hW]; exact (below_set1 HB1.out (Nat.le_trans HGG.out (by omega)) 7 (.int .i64 snap))
  go_upto_region 14 with (fail)
  rw [← hW]
  clear hW HX1 HA1 HR1 HB1 a0 b7 x7 f7
  have a0 := HA2.out.cell 0
  go_upto_region 16 with (fail)
  clear a0
  have x0 := HX2.out.cell 0
  have r0 := HR2.out.cell 0
  have q0 := HR2.out.frozen 0
  have x1 := HX2.out.cell 1
  have r1 := HR2.out.cell 1
  have q1 := HR2.out.frozen 1
  have x2 := HX2.out.cell 2
  have r2 := HR2.out.cell 2
  have q2 := HR2.out.frozen 2
  have x3 := HX2.out.cell 3
  have r3 := HR2.out.cell 3
  have q3 := HR2.out.frozen 3
  have x4 := HX2.out.cell 4
  have r4 := HR2.out.cell 4
  have q4 := HR2.out.frozen 4
  have x5 := HX2.out.cell 5
  have r5 := HR2.out.cell 5
  have q5 := HR2.out.frozen 5
  have x6 := HX2.out.cell 6
  have r6 := HR2.out.cell 6
  have q6 := HR2.out.frozen 6
  have x7 := HX2.out.cell 7
  have r7 := HR2.out.cell 7
  have q7 := HR2.out.frozen 7
  have x8 := HX2.out.cell 8
  have r8 := HR2.out.cell 8
  have q8 := HR2.out.frozen 8
  go_wp2_with fail
  refine bodyPost_ret (results_blk1 rfl _ _ (g + 1) 25 _ _ rfl (set9_blk HR2.out _ _ _ _ _ _ _ _ _) rfl rfl rfl) rfl ⟨rfl, ?_⟩
  exact below_row9 HB2.out (Nat.le_trans HGG.out (by omega)) _ _ _ _ _ _ _ _ _
set_option maxHeartbeats 4000000 in
set_option maxRecDepth 100000 in
theorem asked_12 (path dest : List UInt8) (fd at_ n : Int) (till : Nat) (snap : Int) (data : List UInt8) (A : Option Addr) (c : Nat) (w : World) :
    Calls Try.prog 24 #[.agg #[.int .i64 12, .string (strOf path), .string (strOf dest), .int .i64 fd, .int .i64 at_, .int .i64 n, .int .u64 (till : Nat), .int .i64 snap, .slice A data.length c]] w fun e w' => e = .returned (.agg #[.int .i64 12, .string (strOf path), .string ⟨#[]⟩, .int .i64 0, .int .i64 0, .int .i64 0, .int .u64 0, .int .i64 snap, .slice none 0 0]) ∧ Below w.heap.size w w' := by
  obtain ⟨WA, hWA⟩ : ∃ W, W = w.alloc (.cells #[.int .i64 12, .string (strOf path), .string (strOf dest), .int .i64 fd, .int .i64 at_, .int .i64 n, .int .u64 (till : Nat), .int .i64 snap, .slice A data.length c] 25) := ⟨_, rfl⟩
  obtain ⟨WR, hWR⟩ : ∃ W, W = WA.alloc (.cells #[.int .i64 0, .string ⟨#[]⟩, .string ⟨#[]⟩, .int .i64 0, .int .i64 0, .int .i64 0, .int .u64 0, .int .i64 0, .slice none 0 0] 25) := ⟨_, rfl⟩
  obtain ⟨WX, hWX⟩ : ∃ W, W = WR.alloc (.cells #[.int .i64 12, .string ⟨#[]⟩, .string ⟨#[]⟩, .int .i64 0, .int .i64 0, .int .i64 0, .int .u64 0, .int .i64 0, .slice none 0 0] 25) := ⟨_, rfl⟩
  obtain ⟨g, hg⟩ : ∃ x, x = w.heap.size := ⟨_, rfl⟩
  have hzA : WA.heap.size = g + 1 := by rw [hWA, World.size_alloc, hg]
  have hzR : WR.heap.size = g + 2 := by rw [hWR, World.size_alloc, hzA]
  have hA : Blk WA g 25 [.int .i64 12, .string (strOf path), .string (strOf dest), .int .i64 fd, .int .i64 at_, .int .i64 n, .int .u64 (till : Nat), .int .i64 snap, .slice A data.length c] := by rw [hWA, hg]; exact Blk.new w _ _
  have hR : Blk WR (g + 1) 25 [.int .i64 0, .string ⟨#[]⟩, .string ⟨#[]⟩, .int .i64 0, .int .i64 0, .int .i64 0, .int .u64 0, .int .i64 0, .slice none 0 0] := by rw [hWR, ← hzA]; exact Blk.new WA _ _
  have hb2 : Below WA.heap.size WA WR := by rw [hWR]; exact below_new WA _
  have hb3 : Below WR.heap.size WR WX := by rw [hWX]; exact below_new WR _
  have HA : Hid (Blk WX g 25 [.int .i64 12, .string (strOf path), .string (strOf dest), .int .i64 fd, .int .i64 at_, .int .i64 n, .int .u64 (till : Nat), .int .i64 snap, .slice A data.length c]) := (hA.below hb2 hA.lt).below hb3 (hA.below hb2 hA.lt).lt
  have HR : Hid (Blk WX (g + 1) 25 [.int .i64 0, .string ⟨#[]⟩, .string ⟨#[]⟩, .int .i64 0, .int .i64 0, .int .i64 0, .int .u64 0, .int .i64 0, .slice none 0 0]) := hR.below hb3 hR.lt
  have HX0 : Hid (Blk WX (g + 2) 25 [.int .i64 12, .string ⟨#[]⟩, .string ⟨#[]⟩, .int .i64 0, .int .i64 0, .int .i64 0, .int .u64 0, .int .i64 0, .slice none 0 0]) := by show Blk _ _ _ _; rw [hWX, ← hzR]; exact Blk.new WR _ _
  have HB : Hid (Below w.heap.size w WX) := by
    have hb1 : Below w.heap.size w WA := by rw [hWA]; exact below_new w _
    exact (hb1.trans (hb2.mono hb1.size)).trans (hb3.mono (Nat.le_trans hb1.size hb2.size))
  have HGG : Hid (w.heap.size ≤ g) := Nat.le_of_eq hg.symm
  clear hA hR hb2 hb3 hzA hzR
  go_enter Try.func24, Try.ntmps24
  go_upto_region 2 with (fail)
  rw [← hWA, ← hWR, ← hWX, ← hg]
  try rw [show g + 1 + 1 = g + 2 from rfl]
  clear hWA hWR hWX hg
  have hkd : Kd 12 := by decide
  have HKD := Lib.hid hkd
  clear hkd
  have a0 := HA.out.cell 0
  go_wp2_with fail
  refine (r_hasPath 12 HKD.out _).mono ?_
  rintro e wq ⟨rfl, hq⟩
  rw [hq]
  clear hq wq
  rw [show hasPath 12 = true from rfl]
  have b1 := HA.out.cell 1
  have x1 := HX0.out.cell 1
  have f1 := HX0.out.frozen 1
  obtain ⟨W1, hW⟩ : ∃ W, W = (WX.setCell ⟨g + 2, 1, none⟩ (.string (strOf path))) := ⟨_, rfl⟩
  have HX1 : Hid (Blk W1 (g + 2) 25 [.int .i64 12, .string (strOf path), .string ⟨#[]⟩, .int .i64 0, .int .i64 0, .int .i64 0, .int .u64 0, .int .i64 0, .slice none 0 0]) := by show Blk _ _ _ _; rw [hW]; exact (HX0.out.set_ 1 (.string (strOf path)))
  have HA1 : Hid (Blk W1 g 25 [.int .i64 12, .string (strOf path), .string (strOf dest), .int .i64 fd, .int .i64 at_, .int .i64 n, .int .u64 (till : Nat), .int .i64 snap, .slice A data.length c]) := by show Blk _ _ _ _; rw [hW]; exact (HA.out.far (by show g ≠ g + 2; omega) _)
  have HR1 : Hid (Blk W1 (g + 1) 25 [.int .i64 0, .string ⟨#[]⟩, .string ⟨#[]⟩, .int .i64 0, .int .i64 0, .int .i64 0, .int .u64 0, .int .i64 0, .slice none 0 0]) := by show Blk _ _ _ _; rw [hW]; exact (HR.out.far (by show g + 1 ≠ g + 2; omega) _)
  have HB1 : Hid (Below w.heap.size w W1) := by show Below _ _ _; rw [hW]; exact (below_set1 HB.out (Nat.le_trans HGG.out (by omega)) 1 (.string (strOf path)))
  go_upto_region 4 with (fail)
  rw [← hW]
  clear hW HX0 HA HR HB a0 b1 x1 f1
  have a0 := HA1.out.cell 0
  go_wp2_with fail
  refine (r_hasTo 12 HKD.out _).mono ?_
  rintro e wq ⟨rfl, hq⟩
  rw [hq]
  clear hq wq
  rw [show hasTo 12 = false from rfl]
  go_upto_region 6 with (fail)
  clear a0
  have a0 := HA1.out.cell 0
  go_wp2_with fail
  refine (r_hasFd 12 HKD.out _).mono ?_
  rintro e wq ⟨rfl, hq⟩
  rw [hq]
  clear hq wq
  rw [show hasFd 12 = false from rfl]
  go_upto_region 8 with (fail)
  clear a0
  have a0 := HA1.out.cell 0
  go_upto_region 10 with (fail)
  clear a0
  have a0 := HA1.out.cell 0
  go_wp2_with fail
  refine (r_hasTill 12 HKD.out _).mono ?_
  rintro e wq ⟨rfl, hq⟩
  rw [hq]
  clear hq wq
  rw [show hasTill 12 = false from rfl]
  go_upto_region 12 with (fail)
  clear a0
  have a0 := HA1.out.cell 0
  go_wp2_with fail
  refine (r_hasSnap 12 HKD.out _).mono ?_
  rintro e wq ⟨rfl, hq⟩
  rw [hq]
  clear hq wq
  rw [show hasSnap 12 = true from rfl]
  have b7 := HA1.out.cell 7
  have x7 := HX1.out.cell 7
  have f7 := HX1.out.frozen 7
  obtain ⟨W2, hW⟩ : ∃ W, W = (W1.setCell ⟨g + 2, 7, none⟩ (.int .i64 snap)) := ⟨_, rfl⟩
  have HX2 : Hid (Blk W2 (g + 2) 25 [.int .i64 12, .string (strOf path), .string ⟨#[]⟩, .int .i64 0, .int .i64 0, .int .i64 0, .int .u64 0, .int .i64 snap, .slice none 0 0]) := by show Blk _ _ _ _; rw [hW]; exact (HX1.out.set_ 7 (.int .i64 snap))
  have HA2 : Hid (Blk W2 g 25 [.int .i64 12, .string (strOf path), .string (strOf dest), .int .i64 fd, .int .i64 at_, .int .i64 n, .int .u64 (till : Nat), .int .i64 snap, .slice A data.length c]) := by show Blk _ _ _ _; rw [hW]; exact (HA1.out.far (by show g ≠ g + 2; omega) _)
  have HR2 : Hid (Blk W2 (g + 1) 25 [.int .i64 0, .string ⟨#[]⟩, .string ⟨#[]⟩, .int .i64 0, .int .i64 0, .int .i64 0, .int .u64 0, .int .i64 0, .slice none 0 0]) := by show Blk _ _ _ _; rw [hW]; exact (HR1.out.far (by show g + 1 ≠ g + 2; omega) _)
  have HB2 : Hid (Below w.heap.size w W2) := by show Below _ _ _; rw [hW]; exact (below_set1 HB1.out (Nat.le_trans HGG.out (by omega)) 7 (.int .i64 snap))
  go_upto_region 14 with (fail)
  rw [← hW]
  clear hW HX1 HA1 HR1 HB1 a0 b7 x7 f7
  have a0 := HA2.out.cell 0
  go_upto_region 16 with (fail)
  clear a0
  have x0 := HX2.out.cell 0
  have r0 := HR2.out.cell 0
  have q0 := HR2.out.frozen 0
  have x1 := HX2.out.cell 1
  have r1 := HR2.out.cell 1
  have q1 := HR2.out.frozen 1
  have x2 := HX2.out.cell 2
  have r2 := HR2.out.cell 2
  have q2 := HR2.out.frozen 2
  have x3 := HX2.out.cell 3
  have r3 := HR2.out.cell 3
  have q3 := HR2.out.frozen 3
  have x4 := HX2.out.cell 4
  have r4 := HR2.out.cell 4
  have q4 := HR2.out.frozen 4
  have x5 := HX2.out.cell 5
  have r5 := HR2.out.cell 5
  have q5 := HR2.out.frozen 5
  have x6 := HX2.out.cell 6
  have r6 := HR2.out.cell 6
  have q6 := HR2.out.frozen 6
  have x7 := HX2.out.cell 7
  have r7 := HR2.out.cell 7
  have q7 := HR2.out.frozen 7
  have x8 := HX2.out.cell 8
  have r8 := HR2.out.cell 8
  have q8 := HR2.out.frozen 8
  go_wp2_with fail
  refine bodyPost_ret (results_blk1 rfl _ _ (g + 1) 25 _ _ rfl (set9_blk HR2.out _ _ _ _ _ _ _ _ _) rfl rfl rfl) rfl ⟨rfl, ?_⟩
  exact below_row9 HB2.out (Nat.le_trans HGG.out (by omega)) _ _ _ _ _ _ _ _ _
set_option maxHeartbeats 4000000 in
set_option maxRecDepth 100000 in
theorem asked_13 (path dest : List UInt8) (fd at_ n : Int) (till : Nat) (snap : Int) (data : List UInt8) (A : Option Addr) (c : Nat) (w : World) :
    Calls Try.prog 24 #[.agg #[.int .i64 13, .string (strOf path), .string (strOf dest), .int .i64 fd, .int .i64 at_, .int .i64 n, .int .u64 (till : Nat), .int .i64 snap, .slice A data.length c]] w fun e w' => e = .returned (.agg #[.int .i64 13, .string (strOf path), .string ⟨#[]⟩, .int .i64 0, .int .i64 0, .int .i64 0, .int .u64 (till : Nat), .int .i64 0, .slice none 0 0]) ∧ Below w.heap.size w w' := by
  obtain ⟨WA, hWA⟩ : ∃ W, W = w.alloc (.cells #[.int .i64 13, .string (strOf path), .string (strOf dest), .int .i64 fd, .int .i64 at_, .int .i64 n, .int .u64 (till : Nat), .int .i64 snap, .slice A data.length c] 25) := ⟨_, rfl⟩
  obtain ⟨WR, hWR⟩ : ∃ W, W = WA.alloc (.cells #[.int .i64 0, .string ⟨#[]⟩, .string ⟨#[]⟩, .int .i64 0, .int .i64 0, .int .i64 0, .int .u64 0, .int .i64 0, .slice none 0 0] 25) := ⟨_, rfl⟩
  obtain ⟨WX, hWX⟩ : ∃ W, W = WR.alloc (.cells #[.int .i64 13, .string ⟨#[]⟩, .string ⟨#[]⟩, .int .i64 0, .int .i64 0, .int .i64 0, .int .u64 0, .int .i64 0, .slice none 0 0] 25) := ⟨_, rfl⟩
  obtain ⟨g, hg⟩ : ∃ x, x = w.heap.size := ⟨_, rfl⟩
  have hzA : WA.heap.size = g + 1 := by rw [hWA, World.size_alloc, hg]
  have hzR : WR.heap.size = g + 2 := by rw [hWR, World.size_alloc, hzA]
  have hA : Blk WA g 25 [.int .i64 13, .string (strOf path), .string (strOf dest), .int .i64 fd, .int .i64 at_, .int .i64 n, .int .u64 (till : Nat), .int .i64 snap, .slice A data.length c] := by rw [hWA, hg]; exact Blk.new w _ _
  have hR : Blk WR (g + 1) 25 [.int .i64 0, .string ⟨#[]⟩, .string ⟨#[]⟩, .int .i64 0, .int .i64 0, .int .i64 0, .int .u64 0, .int .i64 0, .slice none 0 0] := by rw [hWR, ← hzA]; exact Blk.new WA _ _
  have hb2 : Below WA.heap.size WA WR := by rw [hWR]; exact below_new WA _
  have hb3 : Below WR.heap.size WR WX := by rw [hWX]; exact below_new WR _
  have HA : Hid (Blk WX g 25 [.int .i64 13, .string (strOf path), .string (strOf dest), .int .i64 fd, .int .i64 at_, .int .i64 n, .int .u64 (till : Nat), .int .i64 snap, .slice A data.length c]) := (hA.below hb2 hA.lt).below hb3 (hA.below hb2 hA.lt).lt
  have HR : Hid (Blk WX (g + 1) 25 [.int .i64 0, .string ⟨#[]⟩, .string ⟨#[]⟩, .int .i64 0, .int .i64 0, .int .i64 0, .int .u64 0, .int .i64 0, .slice none 0 0]) := hR.below hb3 hR.lt
  have HX0 : Hid (Blk WX (g + 2) 25 [.int .i64 13, .string ⟨#[]⟩, .string ⟨#[]⟩, .int .i64 0, .int .i64 0, .int .i64 0, .int .u64 0, .int .i64 0, .slice none 0 0]) := by show Blk _ _ _ _; rw [hWX, ← hzR]; exact Blk.new WR _ _
  have HB : Hid (Below w.heap.size w WX) := by
    have hb1 : Below w.heap.size w WA := by rw [hWA]; exact below_new w _
    exact (hb1.trans (hb2.mono hb1.size)).trans (hb3.mono (Nat.le_trans hb1.size hb2.size))
  have HGG : Hid (w.heap.size ≤ g) := Nat.le_of_eq hg.symm
  clear hA hR hb2 hb3 hzA hzR
  go_enter Try.func24, Try.ntmps24
  go_upto_region 2 with (fail)
  rw [← hWA, ← hWR, ← hWX, ← hg]
  try rw [show g + 1 + 1 = g + 2 from rfl]
  clear hWA hWR hWX hg
  have hkd : Kd 13 := by decide
  have HKD := Lib.hid hkd
  clear hkd
  have a0 := HA.out.cell 0
  go_wp2_with fail
  refine (r_hasPath 13 HKD.out _).mono ?_
  rintro e wq ⟨rfl, hq⟩
  rw [hq]
  clear hq wq
  rw [show hasPath 13 = true from rfl]
  have b1 := HA.out.cell 1
  have x1 := HX0.out.cell 1
  have f1 := HX0.out.frozen 1
  obtain ⟨W1, hW⟩ : ∃ W, W = (WX.setCell ⟨g + 2, 1, none⟩ (.string (strOf path))) := ⟨_, rfl⟩
  have HX1 : Hid (Blk W1 (g + 2) 25 [.int .i64 13, .string (strOf path), .string ⟨#[]⟩, .int .i64 0, .int .i64 0, .int .i64 0, .int .u64 0, .int .i64 0, .slice none 0 0]) := by show Blk _ _ _ _; rw [hW]; exact (HX0.out.set_ 1 (.string (strOf path)))
  have HA1 : Hid (Blk W1 g 25 [.int .i64 13, .string (strOf path), .string (strOf dest), .int .i64 fd, .int .i64 at_, .int .i64 n, .int .u64 (till : Nat), .int .i64 snap, .slice A data.length c]) := by show Blk _ _ _ _; rw [hW]; exact (HA.out.far (by show g ≠ g + 2; omega) _)
  have HR1 : Hid (Blk W1 (g + 1) 25 [.int .i64 0, .string ⟨#[]⟩, .string ⟨#[]⟩, .int .i64 0, .int .i64 0, .int .i64 0, .int .u64 0, .int .i64 0, .slice none 0 0]) := by show Blk _ _ _ _; rw [hW]; exact (HR.out.far (by show g + 1 ≠ g + 2; omega) _)
  have HB1 : Hid (Below w.heap.size w W1) := by show Below _ _ _; rw [hW]; exact (below_set1 HB.out (Nat.le_trans HGG.out (by omega)) 1 (.string (strOf path)))
  go_upto_region 4 with (fail)
  rw [← hW]
  clear hW HX0 HA HR HB a0 b1 x1 f1
  have a0 := HA1.out.cell 0
  go_wp2_with fail
  refine (r_hasTo 13 HKD.out _).mono ?_
  rintro e wq ⟨rfl, hq⟩
  rw [hq]
  clear hq wq
  rw [show hasTo 13 = false from rfl]
  go_upto_region 6 with (fail)
  clear a0
  have a0 := HA1.out.cell 0
  go_wp2_with fail
  refine (r_hasFd 13 HKD.out _).mono ?_
  rintro e wq ⟨rfl, hq⟩
  rw [hq]
  clear hq wq
  rw [show hasFd 13 = false from rfl]
  go_upto_region 8 with (fail)
  clear a0
  have a0 := HA1.out.cell 0
  go_upto_region 10 with (fail)
  clear a0
  have a0 := HA1.out.cell 0
  go_wp2_with fail
  refine (r_hasTill 13 HKD.out _).mono ?_
  rintro e wq ⟨rfl, hq⟩
  rw [hq]
  clear hq wq
  rw [show hasTill 13 = true from rfl]
  have b6 := HA1.out.cell 6
  have x6 := HX1.out.cell 6
  have f6 := HX1.out.frozen 6
  obtain ⟨W2, hW⟩ : ∃ W, W = (W1.setCell ⟨g + 2, 6, none⟩ (.int .u64 (till : Nat))) := ⟨_, rfl⟩
  have HX2 : Hid (Blk W2 (g + 2) 25 [.int .i64 13, .string (strOf path), .string ⟨#[]⟩, .int .i64 0, .int .i64 0, .int .i64 0, .int .u64 (till : Nat), .int .i64 0, .slice none 0 0]) := by show Blk _ _ _ _; rw [hW]; exact (HX1.out.set_ 6 (.int .u64 (till : Nat)))
  have HA2 : Hid (Blk W2 g 25 [.int .i64 13, .string (strOf path), .string (strOf dest), .int .i64 fd, .int .i64 at_, .int .i64 n, .int .u64 (till : Nat), .int .i64 snap, .slice A data.length c]) := by show Blk _ _ _ _; rw [hW]; exact (HA1.out.far (by show g ≠ g + 2; omega) _)
  have HR2 : Hid (Blk W2 (g + 1) 25 [.int .i64 0, .string ⟨#[]⟩, .string ⟨#[]⟩, .int .i64 0, .int .i64 0, .int .i64 0, .int .u64 0, .int .i64 0, .slice none 0 0]) := by show Blk _ _ _ _; rw [hW]; exact (HR1.out.far (by show g + 1 ≠ g + 2; omega) _)
  have HB2 : Hid (Below w.heap.size w W2) := by show Below _ _ _; rw [hW]; exact (below_set1 HB1.out (Nat.le_trans HGG.out (by omega)) 6 (.int .u64 (till : Nat)))
  go_upto_region 12 with (fail)
  rw [← hW]
  clear hW HX1 HA1 HR1 HB1 a0 b6 x6 f6
  have a0 := HA2.out.cell 0
  go_wp2_with fail
  refine (r_hasSnap 13 HKD.out _).mono ?_
  rintro e wq ⟨rfl, hq⟩
  rw [hq]
  clear hq wq
  rw [show hasSnap 13 = false from rfl]
  go_upto_region 14 with (fail)
  clear a0
  have a0 := HA2.out.cell 0
  go_upto_region 16 with (fail)
  clear a0
  have x0 := HX2.out.cell 0
  have r0 := HR2.out.cell 0
  have q0 := HR2.out.frozen 0
  have x1 := HX2.out.cell 1
  have r1 := HR2.out.cell 1
  have q1 := HR2.out.frozen 1
  have x2 := HX2.out.cell 2
  have r2 := HR2.out.cell 2
  have q2 := HR2.out.frozen 2
  have x3 := HX2.out.cell 3
  have r3 := HR2.out.cell 3
  have q3 := HR2.out.frozen 3
  have x4 := HX2.out.cell 4
  have r4 := HR2.out.cell 4
  have q4 := HR2.out.frozen 4
  have x5 := HX2.out.cell 5
  have r5 := HR2.out.cell 5
  have q5 := HR2.out.frozen 5
  have x6 := HX2.out.cell 6
  have r6 := HR2.out.cell 6
  have q6 := HR2.out.frozen 6
  have x7 := HX2.out.cell 7
  have r7 := HR2.out.cell 7
  have q7 := HR2.out.frozen 7
  have x8 := HX2.out.cell 8
  have r8 := HR2.out.cell 8
  have q8 := HR2.out.frozen 8
  go_wp2_with fail
  refine bodyPost_ret (results_blk1 rfl _ _ (g + 1) 25 _ _ rfl (set9_blk HR2.out _ _ _ _ _ _ _ _ _) rfl rfl rfl) rfl ⟨rfl, ?_⟩
  exact below_row9 HB2.out (Nat.le_trans HGG.out (by omega)) _ _ _ _ _ _ _ _ _
set_option maxHeartbeats 4000000 in
set_option maxRecDepth 100000 in
theorem asked_14 (path dest : List UInt8) (fd at_ n : Int) (till : Nat) (snap : Int) (data : List UInt8) (A : Option Addr) (c : Nat) (w : World) :
    Calls Try.prog 24 #[.agg #[.int .i64 14, .string (strOf path), .string (strOf dest), .int .i64 fd, .int .i64 at_, .int .i64 n, .int .u64 (till : Nat), .int .i64 snap, .slice A data.length c]] w fun e w' => e = .returned (.agg #[.int .i64 14, .string ⟨#[]⟩, .string ⟨#[]⟩, .int .i64 0, .int .i64 0, .int .i64 0, .int .u64 0, .int .i64 0, .slice none 0 0]) ∧ Below w.heap.size w w' := by
  obtain ⟨WA, hWA⟩ : ∃ W, W = w.alloc (.cells #[.int .i64 14, .string (strOf path), .string (strOf dest), .int .i64 fd, .int .i64 at_, .int .i64 n, .int .u64 (till : Nat), .int .i64 snap, .slice A data.length c] 25) := ⟨_, rfl⟩
  obtain ⟨WR, hWR⟩ : ∃ W, W = WA.alloc (.cells #[.int .i64 0, .string ⟨#[]⟩, .string ⟨#[]⟩, .int .i64 0, .int .i64 0, .int .i64 0, .int .u64 0, .int .i64 0, .slice none 0 0] 25) := ⟨_, rfl⟩
  obtain ⟨WX, hWX⟩ : ∃ W, W = WR.alloc (.cells #[.int .i64 14, .string ⟨#[]⟩, .string ⟨#[]⟩, .int .i64 0, .int .i64 0, .int .i64 0, .int .u64 0, .int .i64 0, .slice none 0 0] 25) := ⟨_, rfl⟩
  obtain ⟨g, hg⟩ : ∃ x, x = w.heap.size := ⟨_, rfl⟩
  have hzA : WA.heap.size = g + 1 := by rw [hWA, World.size_alloc, hg]
  have hzR : WR.heap.size = g + 2 := by rw [hWR, World.size_alloc, hzA]
  have hA : Blk WA g 25 [.int .i64 14, .string (strOf path), .string (strOf dest), .int .i64 fd, .int .i64 at_, .int .i64 n, .int .u64 (till : Nat), .int .i64 snap, .slice A data.length c] := by rw [hWA, hg]; exact Blk.new w _ _
  have hR : Blk WR (g + 1) 25 [.int .i64 0, .string ⟨#[]⟩, .string ⟨#[]⟩, .int .i64 0, .int .i64 0, .int .i64 0, .int .u64 0, .int .i64 0, .slice none 0 0] := by rw [hWR, ← hzA]; exact Blk.new WA _ _
  have hb2 : Below WA.heap.size WA WR := by rw [hWR]; exact below_new WA _
  have hb3 : Below WR.heap.size WR WX := by rw [hWX]; exact below_new WR _
  have HA : Hid (Blk WX g 25 [.int .i64 14, .string (strOf path), .string (strOf dest), .int .i64 fd, .int .i64 at_, .int .i64 n, .int .u64 (till : Nat), .int .i64 snap, .slice A data.length c]) := (hA.below hb2 hA.lt).below hb3 (hA.below hb2 hA.lt).lt
  have HR : Hid (Blk WX (g + 1) 25 [.int .i64 0, .string ⟨#[]⟩, .string ⟨#[]⟩, .int .i64 0, .int .i64 0, .int .i64 0, .int .u64 0, .int .i64 0, .slice none 0 0]) := hR.below hb3 hR.lt
  have HX0 : Hid (Blk WX (g + 2) 25 [.int .i64 14, .string ⟨#[]⟩, .string ⟨#[]⟩, .int .i64 0, .int .i64 0, .int .i64 0, .int .u64 0, .int .i64 0, .slice none 0 0]) := by show Blk _ _ _ _; rw [hWX, ← hzR]; exact Blk.new WR _ _
  have HB : Hid (Below w.heap.size w WX) := by
    have hb1 : Below w.heap.size w WA := by rw [hWA]; exact below_new w _
    exact (hb1.trans (hb2.mono hb1.size)).trans (hb3.mono (Nat.le_trans hb1.size hb2.size))
  have HGG : Hid (w.heap.size ≤ g) := Nat.le_of_eq hg.symm
  clear hA hR hb2 hb3 hzA hzR
  go_enter Try.func24, Try.ntmps24
  go_upto_region 2 with (fail)
  rw [← hWA, ← hWR, ← hWX, ← hg]
  try rw [show g + 1 + 1 = g + 2 from rfl]
  clear hWA hWR hWX hg
  have hkd : Kd 14 := by decide
  have HKD := Lib.hid hkd
  clear hkd
  have a0 := HA.out.cell 0
  go_wp2_with fail
  refine (r_hasPath 14 HKD.out _).mono ?_
  rintro e wq ⟨rfl, hq⟩
  rw [hq]
  clear hq wq
  rw [show hasPath 14 = false from rfl]
  go_upto_region 4 with (fail)
  clear a0
  have a0 := HA.out.cell 0
  go_wp2_with fail
  refine (r_hasTo 14 HKD.out _).mono ?_
  rintro e wq ⟨rfl, hq⟩
  rw [hq]
  clear hq wq
  rw [show hasTo 14 = false from rfl]
  go_upto_region 6 with (fail)
  clear a0
  have a0 := HA.out.cell 0
  go_wp2_with fail
  refine (r_hasFd 14 HKD.out _).mono ?_
  rintro e wq ⟨rfl, hq⟩
  rw [hq]
  clear hq wq
  rw [show hasFd 14 = false from rfl]
  go_upto_region 8 with (fail)
  clear a0
  have a0 := HA.out.cell 0
  go_upto_region 10 with (fail)
  clear a0
  have a0 := HA.out.cell 0
  go_wp2_with fail
  refine (r_hasTill 14 HKD.out _).mono ?_
  rintro e wq ⟨rfl, hq⟩
  rw [hq]
  clear hq wq
  rw [show hasTill 14 = false from rfl]
  go_upto_region 12 with (fail)
  clear a0
  have a0 := HA.out.cell 0
  go_wp2_with fail
  refine (r_hasSnap 14 HKD.out _).mono ?_
  rintro e wq ⟨rfl, hq⟩
  rw [hq]
  clear hq wq
  rw [show hasSnap 14 = false from rfl]
  go_upto_region 14 with (fail)
  clear a0
  have a0 := HA.out.cell 0
  go_upto_region 16 with (fail)
  clear a0
  have x0 := HX0.out.cell 0
  have r0 := HR.out.cell 0
  have q0 := HR.out.frozen 0
  have x1 := HX0.out.cell 1
  have r1 := HR.out.cell 1
  have q1 := HR.out.frozen 1
  have x2 := HX0.out.cell 2
  have r2 := HR.out.cell 2
  have q2 := HR.out.frozen 2
  have x3 := HX0.out.cell 3
  have r3 := HR.out.cell 3
  have q3 := HR.out.frozen 3
  have x4 := HX0.out.cell 4
  have r4 := HR.out.cell 4
  have q4 := HR.out.frozen 4
  have x5 := HX0.out.cell 5
  have r5 := HR.out.cell 5
  have q5 := HR.out.frozen 5
  have x6 := HX0.out.cell 6
  have r6 := HR.out.cell 6
  have q6 := HR.out.frozen 6
  have x7 := HX0.out.cell 7
  have r7 := HR.out.cell 7
  have q7 := HR.out.frozen 7
  have x8 := HX0.out.cell 8
  have r8 := HR.out.cell 8
  have q8 := HR.out.frozen 8
  go_wp2_with fail
  refine bodyPost_ret (results_blk1 rfl _ _ (g + 1) 25 _ _ rfl (set9_blk HR.out _ _ _ _ _ _ _ _ _) rfl rfl rfl) rfl ⟨rfl, ?_⟩
  exact below_row9 HB.out (Nat.le_trans HGG.out (by omega)) _ _ _ _ _ _ _ _ _
set_option maxHeartbeats 4000000 in
set_option maxRecDepth 100000 in
theorem asked_15 (path dest : List UInt8) (fd at_ n : Int) (till : Nat) (snap : Int) (data : List UInt8) (A : Option Addr) (c : Nat) (w : World) :
    Calls Try.prog 24 #[.agg #[.int .i64 15, .string (strOf path), .string (strOf dest), .int .i64 fd, .int .i64 at_, .int .i64 n, .int .u64 (till : Nat), .int .i64 snap, .slice A data.length c]] w fun e w' => e = .returned (.agg #[.int .i64 15, .string ⟨#[]⟩, .string ⟨#[]⟩, .int .i64 0, .int .i64 0, .int .i64 0, .int .u64 0, .int .i64 snap, .slice none 0 0]) ∧ Below w.heap.size w w' := by
  obtain ⟨WA, hWA⟩ : ∃ W, W = w.alloc (.cells #[.int .i64 15, .string (strOf path), .string (strOf dest), .int .i64 fd, .int .i64 at_, .int .i64 n, .int .u64 (till : Nat), .int .i64 snap, .slice A data.length c] 25) := ⟨_, rfl⟩
  obtain ⟨WR, hWR⟩ : ∃ W, W = WA.alloc (.cells #[.int .i64 0, .string ⟨#[]⟩, .string ⟨#[]⟩, .int .i64 0, .int .i64 0, .int .i64 0, .int .u64 0, .int .i64 0, .slice none 0 0] 25) := ⟨_, rfl⟩
  obtain ⟨WX, hWX⟩ : ∃ W, W = WR.alloc (.cells #[.int .i64 15, .string ⟨#[]⟩, .string ⟨#[]⟩, .int .i64 0, .int .i64 0, .int .i64 0, .int .u64 0, .int .i64 0, .slice none 0 0] 25) := ⟨_, rfl⟩
  obtain ⟨g, hg⟩ : ∃ x, x = w.heap.size := ⟨_, rfl⟩
  have hzA : WA.heap.size = g + 1 := by rw [hWA, World.size_alloc, hg]
  have hzR : WR.heap.size = g + 2 := by rw [hWR, World.size_alloc, hzA]
  have hA : Blk WA g 25 [.int .i64 15, .string (strOf path), .string (strOf dest), .int .i64 fd, .int .i64 at_, .int .i64 n, .int .u64 (till : Nat), .int .i64 snap, .slice A data.length c] := by rw [hWA, hg]; exact Blk.new w _ _
  have hR : Blk WR (g + 1) 25 [.int .i64 0, .string ⟨#[]⟩, .string ⟨#[]⟩, .int .i64 0, .int .i64 0, .int .i64 0, .int .u64 0, .int .i64 0, .slice none 0 0] := by rw [hWR, ← hzA]; exact Blk.new WA _ _
  have hb2 : Below WA.heap.size WA WR := by rw [hWR]; exact below_new WA _
  have hb3 : Below WR.heap.size WR WX := by rw [hWX]; exact below_new WR _
  have HA : Hid (Blk WX g 25 [.int .i64 15, .string (strOf path), .string (strOf dest), .int .i64 fd, .int .i64 at_, .int .i64 n, .int .u64 (till : Nat), .int .i64 snap, .slice A data.length c]) := (hA.below hb2 hA.lt).below hb3 (hA.below hb2 hA.lt).lt
  have HR : Hid (Blk WX (g + 1) 25 [.int .i64 0, .string ⟨#[]⟩, .string ⟨#[]⟩, .int .i64 0, .int .i64 0, .int .i64 0, .int .u64 0, .int .i64 0, .slice none 0 0]) := hR.below hb3 hR.lt
  have HX0 : Hid (Blk WX (g + 2) 25 [.int .i64 15, .string ⟨#[]⟩, .string ⟨#[]⟩, .int .i64 0, .int .i64 0, .int .i64 0, .int .u64 0, .int .i64 0, .slice none 0 0]) := by show Blk _ _ _ _; rw [hWX, ← hzR]; exact Blk.new WR _ _
  have HB : Hid (Below w.heap.size w WX) := by
    have hb1 : Below w.heap.size w WA := by rw [hWA]; exact below_new w _
    exact (hb1.trans (hb2.mono hb1.size)).trans (hb3.mono (Nat.le_trans hb1.size hb2.size))
  have HGG : Hid (w.heap.size ≤ g) := Nat.le_of_eq hg.symm
  clear hA hR hb2 hb3 hzA hzR
  go_enter Try.func24, Try.ntmps24
  go_upto_region 2 with (fail)
  rw [← hWA, ← hWR, ← hWX, ← hg]
  try rw [show g + 1 + 1 = g + 2 from rfl]
  clear hWA hWR hWX hg
  have hkd : Kd 15 := by decide
  have HKD := Lib.hid hkd
  clear hkd
  have a0 := HA.out.cell 0
  go_wp2_with fail
  refine (r_hasPath 15 HKD.out _).mono ?_
  rintro e wq ⟨rfl, hq⟩
  rw [hq]
  clear hq wq
  rw [show hasPath 15 = false from rfl]
  go_upto_region 4 with (fail)
  clear a0
  have a0 := HA.out.cell 0
  go_wp2_with fail
  refine (r_hasTo 15 HKD.out _).mono ?_
  rintro e wq ⟨rfl, hq⟩
  rw [hq]
  clear hq wq
  rw [show hasTo 15 = false from rfl]
  go_upto_region 6 with (fail)
  clear a0
  have a0 := HA.out.cell 0
  go_wp2_with fail
  refine (r_hasFd 15 HKD.out _).mono ?_
  rintro e wq ⟨rfl, hq⟩
  rw [hq]
  clear hq wq
  rw [show hasFd 15 = false from rfl]
  go_upto_region 8 with (fail)
  clear a0
  have a0 := HA.out.cell 0
  go_upto_region 10 with (fail)
  clear a0
  have a0 := HA.out.cell 0
  go_wp2_with fail
  refine (r_hasTill 15 HKD.out _).mono ?_
  rintro e wq ⟨rfl, hq⟩
  rw [hq]
  clear hq wq
  rw [show hasTill 15 = false from rfl]
  go_upto_region 12 with (fail)
  clear a0
  have a0 := HA.out.cell 0
  go_wp2_with fail
  refine (r_hasSnap 15 HKD.out _).mono ?_
  rintro e wq ⟨rfl, hq⟩
  rw [hq]
  clear hq wq
  rw [show hasSnap 15 = true from rfl]
  have b7 := HA.out.cell 7
  have x7 := HX0.out.cell 7
  have f7 := HX0.out.frozen 7
  obtain ⟨W1, hW⟩ : ∃ W, W = (WX.setCell ⟨g + 2, 7, none⟩ (.int .i64 snap)) := ⟨_, rfl⟩
  have HX1 : Hid (Blk W1 (g + 2) 25 [.int .i64 15, .string ⟨#[]⟩, .string ⟨#[]⟩, .int .i64 0, .int .i64 0, .int .i64 0, .int .u64 0, .int .i64 snap, .slice none 0 0]) := by show Blk _ _ _ _; rw [hW]; exact (HX0.out.set_ 7 (.int .i64 snap))
  have HA1 : Hid (Blk W1 g 25 [.int .i64 15, .string (strOf path), .string (strOf dest), .int .i64 fd, .int .i64 at_, .int .i64 n, .int .u64 (till : Nat), .int .i64 snap, .slice A data.length c]) := by show Blk _ _ _ _; rw [hW]; exact (HA.out.far (by show g ≠ g + 2; omega) _)
  have HR1 : Hid (Blk W1 (g + 1) 25 [.int .i64 0, .string ⟨#[]⟩, .string ⟨#[]⟩, .int .i64 0, .int .i64 0, .int .i64 0, .int .u64 0, .int .i64 0, .slice none 0 0]) := by show Blk _ _ _ _; rw [hW]; exact (HR.out.far (by show g + 1 ≠ g + 2; omega) _)
  have HB1 : Hid (Below w.heap.size w W1) := by show Below _ _ _; rw [hW]; exact (below_set1 HB.out (Nat.le_trans HGG.out (by omega)) 7 (.int .i64 snap))
  go_upto_region 14 with (fail)
  rw [← hW]
  clear hW HX0 HA HR HB a0 b7 x7 f7
  have a0 := HA1.out.cell 0
  go_upto_region 16 with (fail)
  clear a0
  have x0 := HX1.out.cell 0
  have r0 := HR1.out.cell 0
  have q0 := HR1.out.frozen 0
  have x1 := HX1.out.cell 1
  have r1 := HR1.out.cell 1
  have q1 := HR1.out.frozen 1
  have x2 := HX1.out.cell 2
  have r2 := HR1.out.cell 2
  have q2 := HR1.out.frozen 2
  have x3 := HX1.out.cell 3
  have r3 := HR1.out.cell 3
  have q3 := HR1.out.frozen 3
  have x4 := HX1.out.cell 4
  have r4 := HR1.out.cell 4
  have q4 := HR1.out.frozen 4
  have x5 := HX1.out.cell 5
  have r5 := HR1.out.cell 5
  have q5 := HR1.out.frozen 5
  have x6 := HX1.out.cell 6
  have r6 := HR1.out.cell 6
  have q6 := HR1.out.frozen 6
  have x7 := HX1.out.cell 7
  have r7 := HR1.out.cell 7
  have q7 := HR1.out.frozen 7
  have x8 := HX1.out.cell 8
  have r8 := HR1.out.cell 8
  have q8 := HR1.out.frozen 8
  go_wp2_with fail
  refine bodyPost_ret (results_blk1 rfl _ _ (g + 1) 25 _ _ rfl (set9_blk HR1.out _ _ _ _ _ _ _ _ _) rfl rfl rfl) rfl ⟨rfl, ?_⟩
  exact below_row9 HB1.out (Nat.le_trans HGG.out (by omega)) _ _ _ _ _ _ _ _ _
set_option maxHeartbeats 4000000 in
set_option maxRecDepth 100000 in
theorem asked_16 (path dest : List UInt8) (fd at_ n : Int) (till : Nat) (snap : Int) (data : List UInt8) (A : Option Addr) (c : Nat) (w : World) :
    Calls Try.prog 24 #[.agg #[.int .i64 16, .string (strOf path), .string (strOf dest), .int .i64 fd, .int .i64 at_, .int .i64 n, .int .u64 (till : Nat), .int .i64 snap, .slice A data.length c]] w fun e w' => e = .returned (.agg #[.int .i64 16, .string ⟨#[]⟩, .string ⟨#[]⟩, .int .i64 0, .int .i64 0, .int .i64 0, .int .u64 (till : Nat), .int .i64 0, .slice none 0 0]) ∧ Below w.heap.size w w' := by
  obtain ⟨WA, hWA⟩ : ∃ W, W = w.alloc (.cells #[.int .i64 16, .string (strOf path), .string (strOf dest), .int .i64 fd, .int .i64 at_, .int .i64 n, .int .u64 (till : Nat), .int .i64 snap, .slice A data.length c] 25) := ⟨_, rfl⟩
  obtain ⟨WR, hWR⟩ : ∃ W, W = WA.alloc (.cells #[.int .i64 0, .string ⟨#[]⟩, .string ⟨#[]⟩, .int .i64 0, .int .i64 0, .int .i64 0, .int .u64 0, .int .i64 0, .slice none 0 0] 25) := ⟨_, rfl⟩
  obtain ⟨WX, hWX⟩ : ∃ W, W = WR.alloc (.cells #[.int .i64 16, .string ⟨#[]⟩, .string ⟨#[]⟩, .int .i64 0, .int .i64 0, .int .i64 0, .int .u64 0, .int .i64 0, .slice none 0 0] 25) := ⟨_, rfl⟩
  obtain ⟨g, hg⟩ : ∃ x, x = w.heap.size := ⟨_, rfl⟩
  have hzA : WA.heap.size = g + 1 := by rw [hWA, World.size_alloc, hg]
  have hzR : WR.heap.size = g + 2 := by rw [hWR, World.size_alloc, hzA]
  have hA : Blk WA g 25 [.int .i64 16, .string (strOf path), .string (strOf dest), .int .i64 fd, .int .i64 at_, .int .i64 n, .int .u64 (till : Nat), .int .i64 snap, .slice A data.length c] := by rw [hWA, hg]; exact Blk.new w _ _
  have hR : Blk WR (g + 1) 25 [.int .i64 0, .string ⟨#[]⟩, .string ⟨#[]⟩, .int .i64 0, .int .i64 0, .int .i64 0, .int .u64 0, .int .i64 0, .slice none 0 0] := by rw [hWR, ← hzA]; exact Blk.new WA _ _
  have hb2 : Below WA.heap.size WA WR := by rw [hWR]; exact below_new WA _
  have hb3 : Below WR.heap.size WR WX := by rw [hWX]; exact below_new WR _
  have HA : Hid (Blk WX g 25 [.int .i64 16, .string (strOf path), .string (strOf dest), .int .i64 fd, .int .i64 at_, .int .i64 n, .int .u64 (till : Nat), .int .i64 snap, .slice A data.length c]) := (hA.below hb2 hA.lt).below hb3 (hA.below hb2 hA.lt).lt
  have HR : Hid (Blk WX (g + 1) 25 [.int .i64 0, .string ⟨#[]⟩, .string ⟨#[]⟩, .int .i64 0, .int .i64 0, .int .i64 0, .int .u64 0, .int .i64 0, .slice none 0 0]) := hR.below hb3 hR.lt
  have HX0 : Hid (Blk WX (g + 2) 25 [.int .i64 16, .string ⟨#[]⟩, .string ⟨#[]⟩, .int .i64 0, .int .i64 0, .int .i64 0, .int .u64 0, .int .i64 0, .slice none 0 0]) := by show Blk _ _ _ _; rw [hWX, ← hzR]; exact Blk.new WR _ _
  have HB : Hid (Below w.heap.size w WX) := by
    have hb1 : Below w.heap.size w WA := by rw [hWA]; exact below_new w _
    exact (hb1.trans (hb2.mono hb1.size)).trans (hb3.mono (Nat.le_trans hb1.size hb2.size))
  have HGG : Hid (w.heap.size ≤ g) := Nat.le_of_eq hg.symm
  clear hA hR hb2 hb3 hzA hzR
  go_enter Try.func24, Try.ntmps24
  go_upto_region 2 with (fail)
  rw [← hWA, ← hWR, ← hWX, ← hg]
  try rw [show g + 1 + 1 = g + 2 from rfl]
  clear hWA hWR hWX hg
  have hkd : Kd 16 := by decide
  have HKD := Lib.hid hkd
  clear hkd
  have a0 := HA.out.cell 0
  go_wp2_with fail
  refine (r_hasPath 16 HKD.out _).mono ?_
  rintro e wq ⟨rfl, hq⟩
  rw [hq]
  clear hq wq
  rw [show hasPath 16 = false from rfl]
  go_upto_region 4 with (fail)
  clear a0
  have a0 := HA.out.cell 0
  go_wp2_with fail
  refine (r_hasTo 16 HKD.out _).mono ?_
  rintro e wq ⟨rfl, hq⟩
  rw [hq]
  clear hq wq
  rw [show hasTo 16 = false from rfl]
  go_upto_region 6 with (fail)
  clear a0
  have a0 := HA.out.cell 0
  go_wp2_with fail
  refine (r_hasFd 16 HKD.out _).mono ?_
  rintro e wq ⟨rfl, hq⟩
  rw [hq]
  clear hq wq
  rw [show hasFd 16 = false from rfl]
  go_upto_region 8 with (fail)
  clear a0
  have a0 := HA.out.cell 0
  go_upto_region 10 with (fail)
  clear a0
  have a0 := HA.out.cell 0
  go_wp2_with fail
  refine (r_hasTill 16 HKD.out _).mono ?_
  rintro e wq ⟨rfl, hq⟩
  rw [hq]
  clear hq wq
  rw [show hasTill 16 = true from rfl]
  have b6 := HA.out.cell 6
  have x6 := HX0.out.cell 6
  have f6 := HX0.out.frozen 6
  obtain ⟨W1, hW⟩ : ∃ W, W = (WX.setCell ⟨g + 2, 6, none⟩ (.int .u64 (till : Nat))) := ⟨_, rfl⟩
  have HX1 : Hid (Blk W1 (g + 2) 25 [.int .i64 16, .string ⟨#[]⟩, .string ⟨#[]⟩, .int .i64 0, .int .i64 0, .int .i64 0, .int .u64 (till : Nat), .int .i64 0, .slice none 0 0]) := by show Blk _ _ _ _; rw [hW]; exact (HX0.out.set_ 6 (.int .u64 (till : Nat)))
  have HA1 : Hid (Blk W1 g 25 [.int .i64 16, .string (strOf path), .string (strOf dest), .int .i64 fd, .int .i64 at_, .int .i64 n, .int .u64 (till : Nat), .int .i64 snap, .slice A data.length c]) := by show Blk _ _ _ _; rw [hW]; exact (HA.out.far (by show g ≠ g + 2; omega) _)
  have HR1 : Hid (Blk W1 (g + 1) 25 [.int .i64 0, .string ⟨#[]⟩, .string ⟨#[]⟩, .int .i64 0, .int .i64 0, .int .i64 0, .int .u64 0, .int .i64 0, .slice none 0 0]) := by show Blk _ _ _ _; rw [hW]; exact (HR.out.far (by show g + 1 ≠ g + 2; omega) _)
  have HB1 : Hid (Below w.heap.size w W1) := by show Below _ _ _; rw [hW]; exact (below_set1 HB.out (Nat.le_trans HGG.out (by omega)) 6 (.int .u64 (till : Nat)))
  go_upto_region 12 with (fail)
  rw [← hW]
  clear hW HX0 HA HR HB a0 b6 x6 f6
  have a0 := HA1.out.cell 0
  go_wp2_with fail
  refine (r_hasSnap 16 HKD.out _).mono ?_
  rintro e wq ⟨rfl, hq⟩
  rw [hq]
  clear hq wq
  rw [show hasSnap 16 = false from rfl]
  go_upto_region 14 with (fail)
  clear a0
  have a0 := HA1.out.cell 0
  go_upto_region 16 with (fail)
  clear a0
  have x0 := HX1.out.cell 0
  have r0 := HR1.out.cell 0
  have q0 := HR1.out.frozen 0
  have x1 := HX1.out.cell 1
  have r1 := HR1.out.cell 1
  have q1 := HR1.out.frozen 1
  have x2 := HX1.out.cell 2
  have r2 := HR1.out.cell 2
  have q2 := HR1.out.frozen 2
  have x3 := HX1.out.cell 3
  have r3 := HR1.out.cell 3
  have q3 := HR1.out.frozen 3
  have x4 := HX1.out.cell 4
  have r4 := HR1.out.cell 4
  have q4 := HR1.out.frozen 4
  have x5 := HX1.out.cell 5
  have r5 := HR1.out.cell 5
  have q5 := HR1.out.frozen 5
  have x6 := HX1.out.cell 6
  have r6 := HR1.out.cell 6
  have q6 := HR1.out.frozen 6
  have x7 := HX1.out.cell 7
  have r7 := HR1.out.cell 7
  have q7 := HR1.out.frozen 7
  have x8 := HX1.out.cell 8
  have r8 := HR1.out.cell 8
  have q8 := HR1.out.frozen 8
  go_wp2_with fail
  refine bodyPost_ret (results_blk1 rfl _ _ (g + 1) 25 _ _ rfl (set9_blk HR1.out _ _ _ _ _ _ _ _ _) rfl rfl rfl) rfl ⟨rfl, ?_⟩
  exact below_row9 HB1.out (Nat.le_trans HGG.out (by omega)) _ _ _ _ _ _ _ _ _
set_option maxHeartbeats 4000000 in
set_option maxRecDepth 100000 in
theorem asked_17 (path dest : List UInt8) (fd at_ n : Int) (till : Nat) (snap : Int) (data : List UInt8) (A : Option Addr) (c : Nat) (w : World) :
    Calls Try.prog 24 #[.agg #[.int .i64 17, .string (strOf path), .string (strOf dest), .int .i64 fd, .int .i64 at_, .int .i64 n, .int .u64 (till : Nat), .int .i64 snap, .slice A data.length c]] w fun e w' => e = .returned (.agg #[.int .i64 17, .string ⟨#[]⟩, .string ⟨#[]⟩, .int .i64 0, .int .i64 0, .int .i64 0, .int .u64 0, .int .i64 0, .slice none 0 0]) ∧ Below w.heap.size w w' := by
  obtain ⟨WA, hWA⟩ : ∃ W, W = w.alloc (.cells #[.int .i64 17, .string (strOf path), .string (strOf dest), .int .i64 fd, .int .i64 at_, .int .i64 n, .int .u64 (till : Nat), .int .i64 snap, .slice A data.length c] 25) := ⟨_, rfl⟩
  obtain ⟨WR, hWR⟩ : ∃ W, W = WA.alloc (.cells #[.int .i64 0, .string ⟨#[]⟩, .string ⟨#[]⟩, .int .i64 0, .int .i64 0, .int .i64 0, .int .u64 0, .int .i64 0, .slice none 0 0] 25) := ⟨_, rfl⟩
  obtain ⟨WX, hWX⟩ : ∃ W, W = WR.alloc (.cells #[.int .i64 17, .string ⟨#[]⟩, .string ⟨#[]⟩, .int .i64 0, .int .i64 0, .int .i64 0, .int .u64 0, .int .i64 0, .slice none 0 0] 25) := ⟨_, rfl⟩
  obtain ⟨g, hg⟩ : ∃ x, x = w.heap.size := ⟨_, rfl⟩
  have hzA : WA.heap.size = g + 1 := by rw [hWA, World.size_alloc, hg]
  have hzR : WR.heap.size = g + 2 := by rw [hWR, World.size_alloc, hzA]
  have hA : Blk WA g 25 [.int .i64 17, .string (strOf path), .string (strOf dest), .int .i64 fd, .int .i64 at_, .int .i64 n, .int .u64 (till : Nat), .int .i64 snap, .slice A data.length c] := by rw [hWA, hg]; exact Blk.new w _ _
  have hR : Blk WR (g + 1) 25 [.int .i64 0, .string ⟨#[]⟩, .string ⟨#[]⟩, .int .i64 0, .int .i64 0, .int .i64 0, .int .u64 0, .int .i64 0, .slice none 0 0] := by rw [hWR, ← hzA]; exact Blk.new WA _ _
  have hb2 : Below WA.heap.size WA WR := by rw [hWR]; exact below_new WA _
  have hb3 : Below WR.heap.size WR WX := by rw [hWX]; exact below_new WR _
  have HA : Hid (Blk WX g 25 [.int .i64 17, .string (strOf path), .string (strOf dest), .int .i64 fd, .int .i64 at_, .int .i64 n, .int .u64 (till : Nat), .int .i64 snap, .slice A data.length c]) := (hA.below hb2 hA.lt).below hb3 (hA.below hb2 hA.lt).lt
  have HR : Hid (Blk WX (g + 1) 25 [.int .i64 0, .string ⟨#[]⟩, .string ⟨#[]⟩, .int .i64 0, .int .i64 0, .int .i64 0, .int .u64 0, .int .i64 0, .slice none 0 0]) := hR.below hb3 hR.lt
  have HX0 : Hid (Blk WX (g + 2) 25 [.int .i64 17, .string ⟨#[]⟩, .string ⟨#[]⟩, .int .i64 0, .int .i64 0, .int .i64 0, .int .u64 0, .int .i64 0, .slice none 0 0]) := by show Blk _ _ _ _; rw [hWX, ← hzR]; exact Blk.new WR _ _
  have HB : Hid (Below w.heap.size w WX) := by
    have hb1 : Below w.heap.size w WA := by rw [hWA]; exact below_new w _
    exact (hb1.trans (hb2.mono hb1.size)).trans (hb3.mono (Nat.le_trans hb1.size hb2.size))
  have HGG : Hid (w.heap.size ≤ g) := Nat.le_of_eq hg.symm
  clear hA hR hb2 hb3 hzA hzR
  go_enter Try.func24, Try.ntmps24
  go_upto_region 2 with (fail)
  rw [← hWA, ← hWR, ← hWX, ← hg]
  try rw [show g + 1 + 1 = g + 2 from rfl]
  clear hWA hWR hWX hg
  have hkd : Kd 17 := by decide
  have HKD := Lib.hid hkd
  clear hkd
  have a0 := HA.out.cell 0
  go_wp2_with fail
  refine (r_hasPath 17 HKD.out _).mono ?_
  rintro e wq ⟨rfl, hq⟩
  rw [hq]
  clear hq wq
  rw [show hasPath 17 = false from rfl]
  go_upto_region 4 with (fail)
  clear a0
  have a0 := HA.out.cell 0
  go_wp2_with fail
  refine (r_hasTo 17 HKD.out _).mono ?_
  rintro e wq ⟨rfl, hq⟩
  rw [hq]
  clear hq wq
  rw [show hasTo 17 = false from rfl]
  go_upto_region 6 with (fail)
  clear a0
  have a0 := HA.out.cell 0
  go_wp2_with fail
  refine (r_hasFd 17 HKD.out _).mono ?_
  rintro e wq ⟨rfl, hq⟩
  rw [hq]
  clear hq wq
  rw [show hasFd 17 = false from rfl]
  go_upto_region 8 with (fail)
  clear a0
  have a0 := HA.out.cell 0
  go_upto_region 10 with (fail)
  clear a0
  have a0 := HA.out.cell 0
  go_wp2_with fail
  refine (r_hasTill 17 HKD.out _).mono ?_
  rintro e wq ⟨rfl, hq⟩
  rw [hq]
  clear hq wq
  rw [show hasTill 17 = false from rfl]
  go_upto_region 12 with (fail)
  clear a0
  have a0 := HA.out.cell 0
  go_wp2_with fail
  refine (r_hasSnap 17 HKD.out _).mono ?_
  rintro e wq ⟨rfl, hq⟩
  rw [hq]
  clear hq wq
  rw [show hasSnap 17 = false from rfl]
  go_upto_region 14 with (fail)
  clear a0
  have a0 := HA.out.cell 0
  go_upto_region 16 with (fail)
  clear a0
  have x0 := HX0.out.cell 0
  have r0 := HR.out.cell 0
  have q0 := HR.out.frozen 0
  have x1 := HX0.out.cell 1
  have r1 := HR.out.cell 1
  have q1 := HR.out.frozen 1
  have x2 := HX0.out.cell 2
  have r2 := HR.out.cell 2
  have q2 := HR.out.frozen 2
  have x3 := HX0.out.cell 3
  have r3 := HR.out.cell 3
  have q3 := HR.out.frozen 3
  have x4 := HX0.out.cell 4
  have r4 := HR.out.cell 4
  have q4 := HR.out.frozen 4
  have x5 := HX0.out.cell 5
  have r5 := HR.out.cell 5
  have q5 := HR.out.frozen 5
  have x6 := HX0.out.cell 6
  have r6 := HR.out.cell 6
  have q6 := HR.out.frozen 6
  have x7 := HX0.out.cell 7
  have r7 := HR.out.cell 7
  have q7 := HR.out.frozen 7
  have x8 := HX0.out.cell 8
  have r8 := HR.out.cell 8
  have q8 := HR.out.frozen 8
  go_wp2_with fail
  refine bodyPost_ret (results_blk1 rfl _ _ (g + 1) 25 _ _ rfl (set9_blk HR.out _ _ _ _ _ _ _ _ _) rfl rfl rfl) rfl ⟨rfl, ?_⟩
  exact below_row9 HB.out (Nat.le_trans HGG.out (by omega)) _ _ _ _ _ _ _ _ _
def askA (k : Int) (A : Option Addr) : Option Addr := if hasData k then A else none
def askC (k : Int) (c : Nat) : Nat := if hasData k then c else 0
theorem refAsked_det (o : Opn) (hk : Kd o.kind) (A : Option Addr) (c : Nat) (w : World) :
    Calls Try.prog 24 #[opV o (.slice A o.data.length c)] w fun e w' => e = .returned (opV (asked o) (.slice (askA o.kind A) (asked o).data.length (askC o.kind c))) ∧ Below w.heap.size w w' := by
  obtain ⟨kind, path, dest, fd, at_, n, till, snap, data⟩ := o
  dsimp only at hk
  rcases kd_cases hk with rfl | rfl | rfl | rfl | rfl | rfl | rfl | rfl | rfl | rfl | rfl | rfl | rfl | rfl | rfl | rfl | rfl
  · exact asked_1 path dest fd at_ n till snap data A c w
  · exact asked_2 path dest fd at_ n till snap data A c w
  · exact asked_3 path dest fd at_ n till snap data A c w
  · exact asked_4 path dest fd at_ n till snap data A c w
  · exact asked_5 path dest fd at_ n till snap data A c w
  · exact asked_6 path dest fd at_ n till snap data A c w
  · exact asked_7 path dest fd at_ n till snap data A c w
  · exact asked_8 path dest fd at_ n till snap data A c w
  · exact asked_9 path dest fd at_ n till snap data A c w
  · exact asked_10 path dest fd at_ n till snap data A c w
  · exact asked_11 path dest fd at_ n till snap data A c w
  · exact asked_12 path dest fd at_ n till snap data A c w
  · exact asked_13 path dest fd at_ n till snap data A c w
  · exact asked_14 path dest fd at_ n till snap data A c w
  · exact asked_15 path dest fd at_ n till snap data A c w
  · exact asked_16 path dest fd at_ n till snap data A c w
  · exact asked_17 path dest fd at_ n till snap data A c w
end Op
end Go.Proofs.Ytmcbpgbiephllaa
