/-
  OWN WORK. OpWrite, OpEnc, CpRd, CpOne, CpMake
-/
import Derived.Test.YtmcbpgbiephllaaK02
import Derived.Test.YtmcbpgbiephllaaK01

namespace Go.Proofs.Ytmcbpgbiephllaa
open Go.RowKit Rc
open St (Opn)
namespace Op
variable {C : WSaid} {v : Value} {l : List UInt8} {S : Nat → Prop} {w : World}
set_option maxHeartbeats 4000000 in
set_option maxRecDepth 100000 in
theorem write_p (h : C.At v l S w) (hl : l.length ≤ 1000000) (kind : Int) (path dest data : List UInt8) (fd : Int) (at_ : Int) (n : Int) (snap : Int) (till : Nat) (A0 : Option Addr) (c0 : Nat) (lp : path.length ≤ 1000000) (hr : Rd w A0 data) (hS : 0 < data.length → ∀ b, A0.map (·.block) = some b → ¬ S b) :
    Calls Try.prog 50 #[.agg #[.bool true, .bool false, .bool false, .bool false, .bool false, .bool false, .bool false], v, .agg #[.int .i64 kind, .string (strOf path), .string (strOf dest), .int .i64 fd, .int .i64 at_, .int .i64 n, .int .u64 (till : Nat), .int .i64 snap, .slice A0 data.length c0]] w (WInR C v (l ++ Co.wBytes path) S w) := by
  obtain ⟨a, rfl⟩ := C.ptr h
  obtain ⟨WA, hWA⟩ : ∃ WA, WA = w.alloc (.cells #[.bool true, .bool false, .bool false, .bool false, .bool false, .bool false, .bool false] 68) := ⟨_, rfl⟩
  obtain ⟨W0, hW0⟩ : ∃ W0, W0 = WA.alloc (.cells #[.int .i64 kind, .string (strOf path), .string (strOf dest), .int .i64 fd, .int .i64 at_, .int .i64 n, .int .u64 (till : Nat), .int .i64 snap, .slice A0 data.length c0] 25) := ⟨_, rfl⟩
  obtain ⟨g, hg⟩ : ∃ g, g = w.heap.size := ⟨_, rfl⟩
  have hA : Blk WA g 68 [.bool true, .bool false, .bool false, .bool false, .bool false, .bool false, .bool false] := by rw [hWA, hg]; exact Blk.new w _ _
  have HA0 : Hid (Blk W0 g 68 [.bool true, .bool false, .bool false, .bool false, .bool false, .bool false, .bool false]) := by show Blk _ _ _ _; rw [hW0]; exact hA.alloc _
  have HO0 : Hid (Blk W0 (g + 1) 25 [.int .i64 kind, .string (strOf path), .string (strOf dest), .int .i64 fd, .int .i64 at_, .int .i64 n, .int .u64 (till : Nat), .int .i64 snap, .slice A0 data.length c0]) := by
    show Blk _ _ _ _
    rw [hW0, show g + 1 = WA.heap.size by rw [hWA, World.size_alloc, hg]]
    exact Blk.new WA _ _
  have hB : Below w.heap.size w W0 := by rw [hW0, hWA]; exact (below_new w _).trans ((below_new _ _).mono (by rw [World.size_alloc]; omega))
  have hlt := C.lt h
  have h0 : C.At (.pointer (some a)) l S W0 := C.keep h hB.size (fun b hb => hB.block b (hlt b hb))
  have HW0 : Hid (WIn C (.pointer (some a)) l S W0 W0) := WIn.start h0
  have HF : Hid (∀ l' e w', WInR C (.pointer (some a)) l' S W0 e w' → WInR C (.pointer (some a)) l' S w e w') := fun l' e w' ⟨k1, S2, k2, k3, k4⟩ => ⟨k1, S2, k2, (Mod.of_below hB S).trans k3, fun b hb => (k4 b hb).imp id (fun h => Nat.le_trans hB.size h)⟩
  have HNG : Hid (¬ S g ∧ ¬ S (g + 1)) := ⟨fun h9 => by have := hlt _ h9; omega, fun h9 => by have := hlt _ h9; omega⟩
  have HRD : Hid (Rd W0 A0 data) := hr.below hB
  have HS := Lib.hid hS
  have HL := Lib.hid hl
  have Hlp := Lib.hid lp
  have HGA : Hid (g < W0.heap.size ∧ g + 1 < W0.heap.size) := ⟨HA0.out.lt, HO0.out.lt⟩
  clear h hA hB hlt h0 hr hS hl lp
  go_enter Try.func50, Try.ntmps50
  go_upto_region 1 with (fail)
  rw [← hWA, ← hW0, ← hg]
  clear hWA hW0 hg
  have g0 := HA0.out.cell 0
  have g1 := HA0.out.cell 1
  have g2 := HA0.out.cell 2
  have g3 := HA0.out.cell 3
  have g4 := HA0.out.cell 4
  have g5 := HA0.out.cell 5
  have g6 := HA0.out.cell 6
  have o1 := HO0.out.cell 1
  obtain ⟨cc0, wc0, hcv, hcc, hrc, hbc⟩ := conv_in path W0
  have HM := Lib.hid (HW0.out.bytesN (by have := HL.out; have := Hlp.out; (try simp only [List.length_append, Co.wLong_length, Co.wShort, Co.wBytes, List.length_cons, List.length_nil, List.length_take]); omega) hbc _ path cc0 hrc (fun b hb => by injection hb with hb; exact Nat.le_of_eq hb) hcc Hlp.out)
  clear hcc hrc hbc
  go_wp2_with fail
  refine HM.out.mono ?_
  rintro e w1 ⟨⟨x1, rfl⟩, HW1⟩
  clear HM hcv
  clear g0 g1 g2 g3 g4 g5 g6 o1
  have HA1 : Hid (Blk w1 g _ _) := (HW1.out.block g HGA.out.1 HNG.out.1).trans HA0.out
  have HO1 : Hid (Blk w1 (g + 1) _ _) := (HW1.out.block (g + 1) HGA.out.2 HNG.out.2).trans HO0.out
  have g0 := HA1.out.cell 0
  have g1 := HA1.out.cell 1
  have g2 := HA1.out.cell 2
  have g3 := HA1.out.cell 3
  have g4 := HA1.out.cell 4
  have g5 := HA1.out.cell 5
  have g6 := HA1.out.cell 6
  have o1 := HO1.out.cell 1
  go_wp2_with fail
  refine bodyPost_end (results_none rfl _ _ _) rfl ?_
  exact HF.out _ _ _ ⟨⟨_, rfl⟩, HW1⟩
set_option maxHeartbeats 4000000 in
set_option maxRecDepth 100000 in
theorem write_ps (h : C.At v l S w) (hl : l.length ≤ 1000000) (kind : Int) (path dest data : List UInt8) (fd : Int) (at_ : Int) (n : Int) (snap : Nat) (till : Nat) (A0 : Option Addr) (c0 : Nat) (lp : path.length ≤ 1000000) (ns : snap ≤ 65535) (hr : Rd w A0 data) (hS : 0 < data.length → ∀ b, A0.map (·.block) = some b → ¬ S b) :
    Calls Try.prog 50 #[.agg #[.bool true, .bool false, .bool false, .bool false, .bool false, .bool true, .bool false], v, .agg #[.int .i64 kind, .string (strOf path), .string (strOf dest), .int .i64 fd, .int .i64 at_, .int .i64 n, .int .u64 (till : Nat), .int .i64 (snap : Nat), .slice A0 data.length c0]] w (WInR C v (l ++ Co.wBytes path ++ Co.wShort snap) S w) := by
  obtain ⟨a, rfl⟩ := C.ptr h
  obtain ⟨WA, hWA⟩ : ∃ WA, WA = w.alloc (.cells #[.bool true, .bool false, .bool false, .bool false, .bool false, .bool true, .bool false] 68) := ⟨_, rfl⟩
  obtain ⟨W0, hW0⟩ : ∃ W0, W0 = WA.alloc (.cells #[.int .i64 kind, .string (strOf path), .string (strOf dest), .int .i64 fd, .int .i64 at_, .int .i64 n, .int .u64 (till : Nat), .int .i64 (snap : Nat), .slice A0 data.length c0] 25) := ⟨_, rfl⟩
  obtain ⟨g, hg⟩ : ∃ g, g = w.heap.size := ⟨_, rfl⟩
  have hA : Blk WA g 68 [.bool true, .bool false, .bool false, .bool false, .bool false, .bool true, .bool false] := by rw [hWA, hg]; exact Blk.new w _ _
  have HA0 : Hid (Blk W0 g 68 [.bool true, .bool false, .bool false, .bool false, .bool false, .bool true, .bool false]) := by show Blk _ _ _ _; rw [hW0]; exact hA.alloc _
  have HO0 : Hid (Blk W0 (g + 1) 25 [.int .i64 kind, .string (strOf path), .string (strOf dest), .int .i64 fd, .int .i64 at_, .int .i64 n, .int .u64 (till : Nat), .int .i64 (snap : Nat), .slice A0 data.length c0]) := by
    show Blk _ _ _ _
    rw [hW0, show g + 1 = WA.heap.size by rw [hWA, World.size_alloc, hg]]
    exact Blk.new WA _ _
  have hB : Below w.heap.size w W0 := by rw [hW0, hWA]; exact (below_new w _).trans ((below_new _ _).mono (by rw [World.size_alloc]; omega))
  have hlt := C.lt h
  have h0 : C.At (.pointer (some a)) l S W0 := C.keep h hB.size (fun b hb => hB.block b (hlt b hb))
  have HW0 : Hid (WIn C (.pointer (some a)) l S W0 W0) := WIn.start h0
  have HF : Hid (∀ l' e w', WInR C (.pointer (some a)) l' S W0 e w' → WInR C (.pointer (some a)) l' S w e w') := fun l' e w' ⟨k1, S2, k2, k3, k4⟩ => ⟨k1, S2, k2, (Mod.of_below hB S).trans k3, fun b hb => (k4 b hb).imp id (fun h => Nat.le_trans hB.size h)⟩
  have HNG : Hid (¬ S g ∧ ¬ S (g + 1)) := ⟨fun h9 => by have := hlt _ h9; omega, fun h9 => by have := hlt _ h9; omega⟩
  have HRD : Hid (Rd W0 A0 data) := hr.below hB
  have HS := Lib.hid hS
  have HL := Lib.hid hl
  have Hlp := Lib.hid lp
  have Hns := Lib.hid ns
  have HGA : Hid (g < W0.heap.size ∧ g + 1 < W0.heap.size) := ⟨HA0.out.lt, HO0.out.lt⟩
  clear h hA hB hlt h0 hr hS hl lp ns
  go_enter Try.func50, Try.ntmps50
  go_upto_region 1 with (fail)
  rw [← hWA, ← hW0, ← hg]
  clear hWA hW0 hg
  have g0 := HA0.out.cell 0
  have g1 := HA0.out.cell 1
  have g2 := HA0.out.cell 2
  have g3 := HA0.out.cell 3
  have g4 := HA0.out.cell 4
  have g5 := HA0.out.cell 5
  have g6 := HA0.out.cell 6
  have o1 := HO0.out.cell 1
  have o7 := HO0.out.cell 7
  obtain ⟨cc0, wc0, hcv, hcc, hrc, hbc⟩ := conv_in path W0
  have HM := Lib.hid (HW0.out.bytesN (by have := HL.out; have := Hlp.out; have := Hns.out; (try simp only [List.length_append, Co.wLong_length, Co.wShort, Co.wBytes, List.length_cons, List.length_nil, List.length_take]); omega) hbc _ path cc0 hrc (fun b hb => by injection hb with hb; exact Nat.le_of_eq hb) hcc Hlp.out)
  clear hcc hrc hbc
  go_wp2_with fail
  refine HM.out.mono ?_
  rintro e w1 ⟨⟨x1, rfl⟩, HW1⟩
  clear HM hcv
  clear g0 g1 g2 g3 g4 g5 g6 o1 o7
  have HA1 : Hid (Blk w1 g _ _) := (HW1.out.block g HGA.out.1 HNG.out.1).trans HA0.out
  have HO1 : Hid (Blk w1 (g + 1) _ _) := (HW1.out.block (g + 1) HGA.out.2 HNG.out.2).trans HO0.out
  have g0 := HA1.out.cell 0
  have g1 := HA1.out.cell 1
  have g2 := HA1.out.cell 2
  have g3 := HA1.out.cell 3
  have g4 := HA1.out.cell 4
  have g5 := HA1.out.cell 5
  have g6 := HA1.out.cell 6
  have o1 := HO1.out.cell 1
  have o7 := HO1.out.cell 7
  have HM := Lib.hid (HW1.out.short (by have := HL.out; have := Hlp.out; have := Hns.out; (try simp only [List.length_append, Co.wLong_length, Co.wShort, Co.wBytes, List.length_cons, List.length_nil, List.length_take]); omega) snap (Nat.le_trans Hns.out (by decide)))
  go_wp2_with fail
  refine HM.out.mono ?_
  rintro e w2 ⟨⟨x2, rfl⟩, HW2⟩
  clear HM
  clear g0 g1 g2 g3 g4 g5 g6 o1 o7
  have HA2 : Hid (Blk w2 g _ _) := (HW2.out.block g HGA.out.1 HNG.out.1).trans HA0.out
  have HO2 : Hid (Blk w2 (g + 1) _ _) := (HW2.out.block (g + 1) HGA.out.2 HNG.out.2).trans HO0.out
  have g0 := HA2.out.cell 0
  have g1 := HA2.out.cell 1
  have g2 := HA2.out.cell 2
  have g3 := HA2.out.cell 3
  have g4 := HA2.out.cell 4
  have g5 := HA2.out.cell 5
  have g6 := HA2.out.cell 6
  have o1 := HO2.out.cell 1
  have o7 := HO2.out.cell 7
  clear HW1 HA1 HO1
  go_wp2_with fail
  refine bodyPost_end (results_none rfl _ _ _) rfl ?_
  exact HF.out _ _ _ ⟨⟨_, rfl⟩, HW2⟩
set_option maxHeartbeats 4000000 in
set_option maxRecDepth 100000 in
theorem write_fan (h : C.At v l S w) (hl : l.length ≤ 1000000) (kind : Int) (path dest data : List UInt8) (fd : Nat) (at_ : Nat) (n : Nat) (snap : Int) (till : Nat) (A0 : Option Addr) (c0 : Nat) (nf : fd ≤ 65535) (na : at_ ≤ 65535) (nn : n ≤ 65535) (hr : Rd w A0 data) (hS : 0 < data.length → ∀ b, A0.map (·.block) = some b → ¬ S b) :
    Calls Try.prog 50 #[.agg #[.bool false, .bool false, .bool true, .bool true, .bool false, .bool false, .bool false], v, .agg #[.int .i64 kind, .string (strOf path), .string (strOf dest), .int .i64 (fd : Nat), .int .i64 (at_ : Nat), .int .i64 (n : Nat), .int .u64 (till : Nat), .int .i64 snap, .slice A0 data.length c0]] w (WInR C v (l ++ Co.wShort fd ++ Co.wShort at_ ++ Co.wShort n) S w) := by
  obtain ⟨a, rfl⟩ := C.ptr h
  obtain ⟨WA, hWA⟩ : ∃ WA, WA = w.alloc (.cells #[.bool false, .bool false, .bool true, .bool true, .bool false, .bool false, .bool false] 68) := ⟨_, rfl⟩
  obtain ⟨W0, hW0⟩ : ∃ W0, W0 = WA.alloc (.cells #[.int .i64 kind, .string (strOf path), .string (strOf dest), .int .i64 (fd : Nat), .int .i64 (at_ : Nat), .int .i64 (n : Nat), .int .u64 (till : Nat), .int .i64 snap, .slice A0 data.length c0] 25) := ⟨_, rfl⟩
  obtain ⟨g, hg⟩ : ∃ g, g = w.heap.size := ⟨_, rfl⟩
  have hA : Blk WA g 68 [.bool false, .bool false, .bool true, .bool true, .bool false, .bool false, .bool false] := by rw [hWA, hg]; exact Blk.new w _ _
  have HA0 : Hid (Blk W0 g 68 [.bool false, .bool false, .bool true, .bool true, .bool false, .bool false, .bool false]) := by show Blk _ _ _ _; rw [hW0]; exact hA.alloc _
  have HO0 : Hid (Blk W0 (g + 1) 25 [.int .i64 kind, .string (strOf path), .string (strOf dest), .int .i64 (fd : Nat), .int .i64 (at_ : Nat), .int .i64 (n : Nat), .int .u64 (till : Nat), .int .i64 snap, .slice A0 data.length c0]) := by
    show Blk _ _ _ _
    rw [hW0, show g + 1 = WA.heap.size by rw [hWA, World.size_alloc, hg]]
    exact Blk.new WA _ _
  have hB : Below w.heap.size w W0 := by rw [hW0, hWA]; exact (below_new w _).trans ((below_new _ _).mono (by rw [World.size_alloc]; omega))
  have hlt := C.lt h
  have h0 : C.At (.pointer (some a)) l S W0 := C.keep h hB.size (fun b hb => hB.block b (hlt b hb))
  have HW0 : Hid (WIn C (.pointer (some a)) l S W0 W0) := WIn.start h0
  have HF : Hid (∀ l' e w', WInR C (.pointer (some a)) l' S W0 e w' → WInR C (.pointer (some a)) l' S w e w') := fun l' e w' ⟨k1, S2, k2, k3, k4⟩ => ⟨k1, S2, k2, (Mod.of_below hB S).trans k3, fun b hb => (k4 b hb).imp id (fun h => Nat.le_trans hB.size h)⟩
  have HNG : Hid (¬ S g ∧ ¬ S (g + 1)) := ⟨fun h9 => by have := hlt _ h9; omega, fun h9 => by have := hlt _ h9; omega⟩
  have HRD : Hid (Rd W0 A0 data) := hr.below hB
  have HS := Lib.hid hS
  have HL := Lib.hid hl
  have Hnf := Lib.hid nf
  have Hna := Lib.hid na
  have Hnn := Lib.hid nn
  have HGA : Hid (g < W0.heap.size ∧ g + 1 < W0.heap.size) := ⟨HA0.out.lt, HO0.out.lt⟩
  clear h hA hB hlt h0 hr hS hl nf na nn
  go_enter Try.func50, Try.ntmps50
  go_upto_region 1 with (fail)
  rw [← hWA, ← hW0, ← hg]
  clear hWA hW0 hg
  have g0 := HA0.out.cell 0
  have g1 := HA0.out.cell 1
  have g2 := HA0.out.cell 2
  have g3 := HA0.out.cell 3
  have g4 := HA0.out.cell 4
  have g5 := HA0.out.cell 5
  have g6 := HA0.out.cell 6
  have o3 := HO0.out.cell 3
  have o4 := HO0.out.cell 4
  have o5 := HO0.out.cell 5
  have HM := Lib.hid (HW0.out.short (by have := HL.out; have := Hnf.out; have := Hna.out; have := Hnn.out; (try simp only [List.length_append, Co.wLong_length, Co.wShort, Co.wBytes, List.length_cons, List.length_nil, List.length_take]); omega) fd (Nat.le_trans Hnf.out (by decide)))
  go_wp2_with fail
  refine HM.out.mono ?_
  rintro e w1 ⟨⟨x1, rfl⟩, HW1⟩
  clear HM
  clear g0 g1 g2 g3 g4 g5 g6 o3 o4 o5
  have HA1 : Hid (Blk w1 g _ _) := (HW1.out.block g HGA.out.1 HNG.out.1).trans HA0.out
  have HO1 : Hid (Blk w1 (g + 1) _ _) := (HW1.out.block (g + 1) HGA.out.2 HNG.out.2).trans HO0.out
  have g0 := HA1.out.cell 0
  have g1 := HA1.out.cell 1
  have g2 := HA1.out.cell 2
  have g3 := HA1.out.cell 3
  have g4 := HA1.out.cell 4
  have g5 := HA1.out.cell 5
  have g6 := HA1.out.cell 6
  have o3 := HO1.out.cell 3
  have o4 := HO1.out.cell 4
  have o5 := HO1.out.cell 5
  have HM := Lib.hid (HW1.out.short (by have := HL.out; have := Hnf.out; have := Hna.out; have := Hnn.out; (try simp only [List.length_append, Co.wLong_length, Co.wShort, Co.wBytes, List.length_cons, List.length_nil, List.length_take]); omega) at_ (Nat.le_trans Hna.out (by decide)))
  go_wp2_with fail
  refine HM.out.mono ?_
  rintro e w2 ⟨⟨x2, rfl⟩, HW2⟩
  clear HM
  clear g0 g1 g2 g3 g4 g5 g6 o3 o4 o5
  have HA2 : Hid (Blk w2 g _ _) := (HW2.out.block g HGA.out.1 HNG.out.1).trans HA0.out
  have HO2 : Hid (Blk w2 (g + 1) _ _) := (HW2.out.block (g + 1) HGA.out.2 HNG.out.2).trans HO0.out
  have g0 := HA2.out.cell 0
  have g1 := HA2.out.cell 1
  have g2 := HA2.out.cell 2
  have g3 := HA2.out.cell 3
  have g4 := HA2.out.cell 4
  have g5 := HA2.out.cell 5
  have g6 := HA2.out.cell 6
  have o3 := HO2.out.cell 3
  have o4 := HO2.out.cell 4
  have o5 := HO2.out.cell 5
  clear HW1 HA1 HO1
  have HM := Lib.hid (HW2.out.short (by have := HL.out; have := Hnf.out; have := Hna.out; have := Hnn.out; (try simp only [List.length_append, Co.wLong_length, Co.wShort, Co.wBytes, List.length_cons, List.length_nil, List.length_take]); omega) n (Nat.le_trans Hnn.out (by decide)))
  go_wp2_with fail
  refine HM.out.mono ?_
  rintro e w3 ⟨⟨x3, rfl⟩, HW3⟩
  clear HM
  clear g0 g1 g2 g3 g4 g5 g6 o3 o4 o5
  have HA3 : Hid (Blk w3 g _ _) := (HW3.out.block g HGA.out.1 HNG.out.1).trans HA0.out
  have HO3 : Hid (Blk w3 (g + 1) _ _) := (HW3.out.block (g + 1) HGA.out.2 HNG.out.2).trans HO0.out
  have g0 := HA3.out.cell 0
  have g1 := HA3.out.cell 1
  have g2 := HA3.out.cell 2
  have g3 := HA3.out.cell 3
  have g4 := HA3.out.cell 4
  have g5 := HA3.out.cell 5
  have g6 := HA3.out.cell 6
  have o3 := HO3.out.cell 3
  have o4 := HO3.out.cell 4
  have o5 := HO3.out.cell 5
  clear HW2 HA2 HO2
  go_wp2_with fail
  refine bodyPost_end (results_none rfl _ _ _) rfl ?_
  exact HF.out _ _ _ ⟨⟨_, rfl⟩, HW3⟩
set_option maxHeartbeats 4000000 in
set_option maxRecDepth 100000 in
theorem write_fd (h : C.At v l S w) (hl : l.length ≤ 1000000) (kind : Int) (path dest data : List UInt8) (fd : Nat) (at_ : Int) (n : Int) (snap : Int) (till : Nat) (A0 : Option Addr) (c0 : Nat) (nf : fd ≤ 65535) (ld : data.length ≤ 1000000 ∧ data.length ≤ c0) (hr : Rd w A0 data) (hS : 0 < data.length → ∀ b, A0.map (·.block) = some b → ¬ S b) :
    Calls Try.prog 50 #[.agg #[.bool false, .bool false, .bool true, .bool false, .bool false, .bool false, .bool true], v, .agg #[.int .i64 kind, .string (strOf path), .string (strOf dest), .int .i64 (fd : Nat), .int .i64 at_, .int .i64 n, .int .u64 (till : Nat), .int .i64 snap, .slice A0 data.length c0]] w (WInR C v (l ++ Co.wShort fd ++ Co.wBytes data) S w) := by
  obtain ⟨a, rfl⟩ := C.ptr h
  obtain ⟨WA, hWA⟩ : ∃ WA, WA = w.alloc (.cells #[.bool false, .bool false, .bool true, .bool false, .bool false, .bool false, .bool true] 68) := ⟨_, rfl⟩
  obtain ⟨W0, hW0⟩ : ∃ W0, W0 = WA.alloc (.cells #[.int .i64 kind, .string (strOf path), .string (strOf dest), .int .i64 (fd : Nat), .int .i64 at_, .int .i64 n, .int .u64 (till : Nat), .int .i64 snap, .slice A0 data.length c0] 25) := ⟨_, rfl⟩
  obtain ⟨g, hg⟩ : ∃ g, g = w.heap.size := ⟨_, rfl⟩
  have hA : Blk WA g 68 [.bool false, .bool false, .bool true, .bool false, .bool false, .bool false, .bool true] := by rw [hWA, hg]; exact Blk.new w _ _
  have HA0 : Hid (Blk W0 g 68 [.bool false, .bool false, .bool true, .bool false, .bool false, .bool false, .bool true]) := by show Blk _ _ _ _; rw [hW0]; exact hA.alloc _
  have HO0 : Hid (Blk W0 (g + 1) 25 [.int .i64 kind, .string (strOf path), .string (strOf dest), .int .i64 (fd : Nat), .int .i64 at_, .int .i64 n, .int .u64 (till : Nat), .int .i64 snap, .slice A0 data.length c0]) := by
    show Blk _ _ _ _
    rw [hW0, show g + 1 = WA.heap.size by rw [hWA, World.size_alloc, hg]]
    exact Blk.new WA _ _
  have hB : Below w.heap.size w W0 := by rw [hW0, hWA]; exact (below_new w _).trans ((below_new _ _).mono (by rw [World.size_alloc]; omega))
  have hlt := C.lt h
  have h0 : C.At (.pointer (some a)) l S W0 := C.keep h hB.size (fun b hb => hB.block b (hlt b hb))
  have HW0 : Hid (WIn C (.pointer (some a)) l S W0 W0) := WIn.start h0
  have HF : Hid (∀ l' e w', WInR C (.pointer (some a)) l' S W0 e w' → WInR C (.pointer (some a)) l' S w e w') := fun l' e w' ⟨k1, S2, k2, k3, k4⟩ => ⟨k1, S2, k2, (Mod.of_below hB S).trans k3, fun b hb => (k4 b hb).imp id (fun h => Nat.le_trans hB.size h)⟩
  have HNG : Hid (¬ S g ∧ ¬ S (g + 1)) := ⟨fun h9 => by have := hlt _ h9; omega, fun h9 => by have := hlt _ h9; omega⟩
  have HRD : Hid (Rd W0 A0 data) := hr.below hB
  have HS := Lib.hid hS
  have HL := Lib.hid hl
  have Hnf := Lib.hid nf
  have Hld := Lib.hid ld
  have HGA : Hid (g < W0.heap.size ∧ g + 1 < W0.heap.size) := ⟨HA0.out.lt, HO0.out.lt⟩
  clear h hA hB hlt h0 hr hS hl nf ld
  go_enter Try.func50, Try.ntmps50
  go_upto_region 1 with (fail)
  rw [← hWA, ← hW0, ← hg]
  clear hWA hW0 hg
  have g0 := HA0.out.cell 0
  have g1 := HA0.out.cell 1
  have g2 := HA0.out.cell 2
  have g3 := HA0.out.cell 3
  have g4 := HA0.out.cell 4
  have g5 := HA0.out.cell 5
  have g6 := HA0.out.cell 6
  have o3 := HO0.out.cell 3
  have o8 := HO0.out.cell 8
  have HM := Lib.hid (HW0.out.short (by have := HL.out; have := Hnf.out; have := Hld.out; (try simp only [List.length_append, Co.wLong_length, Co.wShort, Co.wBytes, List.length_cons, List.length_nil, List.length_take]); omega) fd (Nat.le_trans Hnf.out (by decide)))
  go_wp2_with fail
  refine HM.out.mono ?_
  rintro e w1 ⟨⟨x1, rfl⟩, HW1⟩
  clear HM
  clear g0 g1 g2 g3 g4 g5 g6 o3 o8
  have HA1 : Hid (Blk w1 g _ _) := (HW1.out.block g HGA.out.1 HNG.out.1).trans HA0.out
  have HO1 : Hid (Blk w1 (g + 1) _ _) := (HW1.out.block (g + 1) HGA.out.2 HNG.out.2).trans HO0.out
  have g0 := HA1.out.cell 0
  have g1 := HA1.out.cell 1
  have g2 := HA1.out.cell 2
  have g3 := HA1.out.cell 3
  have g4 := HA1.out.cell 4
  have g5 := HA1.out.cell 5
  have g6 := HA1.out.cell 6
  have o3 := HO1.out.cell 3
  have o8 := HO1.out.cell 8
  have HM := Lib.hid (HW1.out.bytesD (by have := HL.out; have := Hnf.out; have := Hld.out; (try simp only [List.length_append, Co.wLong_length, Co.wShort, Co.wBytes, List.length_cons, List.length_nil, List.length_take]); omega) A0 data c0 HRD.out HS.out Hld.out.2 Hld.out.1)
  go_wp2_with fail
  refine HM.out.mono ?_
  rintro e w2 ⟨⟨x2, rfl⟩, HW2⟩
  clear HM
  clear g0 g1 g2 g3 g4 g5 g6 o3 o8
  have HA2 : Hid (Blk w2 g _ _) := (HW2.out.block g HGA.out.1 HNG.out.1).trans HA0.out
  have HO2 : Hid (Blk w2 (g + 1) _ _) := (HW2.out.block (g + 1) HGA.out.2 HNG.out.2).trans HO0.out
  have g0 := HA2.out.cell 0
  have g1 := HA2.out.cell 1
  have g2 := HA2.out.cell 2
  have g3 := HA2.out.cell 3
  have g4 := HA2.out.cell 4
  have g5 := HA2.out.cell 5
  have g6 := HA2.out.cell 6
  have o3 := HO2.out.cell 3
  have o8 := HO2.out.cell 8
  clear HW1 HA1 HO1
  go_wp2_with fail
  refine bodyPost_end (results_none rfl _ _ _) rfl ?_
  exact HF.out _ _ _ ⟨⟨_, rfl⟩, HW2⟩
set_option maxHeartbeats 4000000 in
set_option maxRecDepth 100000 in
theorem write_fu (h : C.At v l S w) (hl : l.length ≤ 1000000) (kind : Int) (path dest data : List UInt8) (fd : Nat) (at_ : Int) (n : Int) (snap : Int) (till : Nat) (A0 : Option Addr) (c0 : Nat) (nf : fd ≤ 65535) (nu : till ≤ 18446744073709551615) (hr : Rd w A0 data) (hS : 0 < data.length → ∀ b, A0.map (·.block) = some b → ¬ S b) :
    Calls Try.prog 50 #[.agg #[.bool false, .bool false, .bool true, .bool false, .bool true, .bool false, .bool false], v, .agg #[.int .i64 kind, .string (strOf path), .string (strOf dest), .int .i64 (fd : Nat), .int .i64 at_, .int .i64 n, .int .u64 (till : Nat), .int .i64 snap, .slice A0 data.length c0]] w (WInR C v (l ++ Co.wShort fd ++ Co.wLong till) S w) := by
  obtain ⟨a, rfl⟩ := C.ptr h
  obtain ⟨WA, hWA⟩ : ∃ WA, WA = w.alloc (.cells #[.bool false, .bool false, .bool true, .bool false, .bool true, .bool false, .bool false] 68) := ⟨_, rfl⟩
  obtain ⟨W0, hW0⟩ : ∃ W0, W0 = WA.alloc (.cells #[.int .i64 kind, .string (strOf path), .string (strOf dest), .int .i64 (fd : Nat), .int .i64 at_, .int .i64 n, .int .u64 (till : Nat), .int .i64 snap, .slice A0 data.length c0] 25) := ⟨_, rfl⟩
  obtain ⟨g, hg⟩ : ∃ g, g = w.heap.size := ⟨_, rfl⟩
  have hA : Blk WA g 68 [.bool false, .bool false, .bool true, .bool false, .bool true, .bool false, .bool false] := by rw [hWA, hg]; exact Blk.new w _ _
  have HA0 : Hid (Blk W0 g 68 [.bool false, .bool false, .bool true, .bool false, .bool true, .bool false, .bool false]) := by show Blk _ _ _ _; rw [hW0]; exact hA.alloc _
  have HO0 : Hid (Blk W0 (g + 1) 25 [.int .i64 kind, .string (strOf path), .string (strOf dest), .int .i64 (fd : Nat), .int .i64 at_, .int .i64 n, .int .u64 (till : Nat), .int .i64 snap, .slice A0 data.length c0]) := by
    show Blk _ _ _ _
    rw [hW0, show g + 1 = WA.heap.size by rw [hWA, World.size_alloc, hg]]
    exact Blk.new WA _ _
  have hB : Below w.heap.size w W0 := by rw [hW0, hWA]; exact (below_new w _).trans ((below_new _ _).mono (by rw [World.size_alloc]; omega))
  have hlt := C.lt h
  have h0 : C.At (.pointer (some a)) l S W0 := C.keep h hB.size (fun b hb => hB.block b (hlt b hb))
  have HW0 : Hid (WIn C (.pointer (some a)) l S W0 W0) := WIn.start h0
  have HF : Hid (∀ l' e w', WInR C (.pointer (some a)) l' S W0 e w' → WInR C (.pointer (some a)) l' S w e w') := fun l' e w' ⟨k1, S2, k2, k3, k4⟩ => ⟨k1, S2, k2, (Mod.of_below hB S).trans k3, fun b hb => (k4 b hb).imp id (fun h => Nat.le_trans hB.size h)⟩
  have HNG : Hid (¬ S g ∧ ¬ S (g + 1)) := ⟨fun h9 => by have := hlt _ h9; omega, fun h9 => by have := hlt _ h9; omega⟩
  have HRD : Hid (Rd W0 A0 data) := hr.below hB
  have HS := Lib.hid hS
  have HL := Lib.hid hl
  have Hnf := Lib.hid nf
  have Hnu := Lib.hid nu
  have HGA : Hid (g < W0.heap.size ∧ g + 1 < W0.heap.size) := ⟨HA0.out.lt, HO0.out.lt⟩
  clear h hA hB hlt h0 hr hS hl nf nu
  go_enter Try.func50, Try.ntmps50
  go_upto_region 1 with (fail)
  rw [← hWA, ← hW0, ← hg]
  clear hWA hW0 hg
  have g0 := HA0.out.cell 0
  have g1 := HA0.out.cell 1
  have g2 := HA0.out.cell 2
  have g3 := HA0.out.cell 3
  have g4 := HA0.out.cell 4
  have g5 := HA0.out.cell 5
  have g6 := HA0.out.cell 6
  have o3 := HO0.out.cell 3
  have o6 := HO0.out.cell 6
  have HM := Lib.hid (HW0.out.short (by have := HL.out; have := Hnf.out; have := Hnu.out; (try simp only [List.length_append, Co.wLong_length, Co.wShort, Co.wBytes, List.length_cons, List.length_nil, List.length_take]); omega) fd (Nat.le_trans Hnf.out (by decide)))
  go_wp2_with fail
  refine HM.out.mono ?_
  rintro e w1 ⟨⟨x1, rfl⟩, HW1⟩
  clear HM
  clear g0 g1 g2 g3 g4 g5 g6 o3 o6
  have HA1 : Hid (Blk w1 g _ _) := (HW1.out.block g HGA.out.1 HNG.out.1).trans HA0.out
  have HO1 : Hid (Blk w1 (g + 1) _ _) := (HW1.out.block (g + 1) HGA.out.2 HNG.out.2).trans HO0.out
  have g0 := HA1.out.cell 0
  have g1 := HA1.out.cell 1
  have g2 := HA1.out.cell 2
  have g3 := HA1.out.cell 3
  have g4 := HA1.out.cell 4
  have g5 := HA1.out.cell 5
  have g6 := HA1.out.cell 6
  have o3 := HO1.out.cell 3
  have o6 := HO1.out.cell 6
  have HM := Lib.hid (HW1.out.long (by have := HL.out; have := Hnf.out; have := Hnu.out; (try simp only [List.length_append, Co.wLong_length, Co.wShort, Co.wBytes, List.length_cons, List.length_nil, List.length_take]); omega) till Hnu.out)
  go_wp2_with fail
  refine HM.out.mono ?_
  rintro e w2 ⟨⟨x2, rfl⟩, HW2⟩
  clear HM
  clear g0 g1 g2 g3 g4 g5 g6 o3 o6
  have HA2 : Hid (Blk w2 g _ _) := (HW2.out.block g HGA.out.1 HNG.out.1).trans HA0.out
  have HO2 : Hid (Blk w2 (g + 1) _ _) := (HW2.out.block (g + 1) HGA.out.2 HNG.out.2).trans HO0.out
  have g0 := HA2.out.cell 0
  have g1 := HA2.out.cell 1
  have g2 := HA2.out.cell 2
  have g3 := HA2.out.cell 3
  have g4 := HA2.out.cell 4
  have g5 := HA2.out.cell 5
  have g6 := HA2.out.cell 6
  have o3 := HO2.out.cell 3
  have o6 := HO2.out.cell 6
  clear HW1 HA1 HO1
  go_wp2_with fail
  refine bodyPost_end (results_none rfl _ _ _) rfl ?_
  exact HF.out _ _ _ ⟨⟨_, rfl⟩, HW2⟩
set_option maxHeartbeats 4000000 in
set_option maxRecDepth 100000 in
theorem write_pt (h : C.At v l S w) (hl : l.length ≤ 1000000) (kind : Int) (path dest data : List UInt8) (fd : Int) (at_ : Int) (n : Int) (snap : Int) (till : Nat) (A0 : Option Addr) (c0 : Nat) (lp : path.length ≤ 1000000) (lt : dest.length ≤ 1000000) (hr : Rd w A0 data) (hS : 0 < data.length → ∀ b, A0.map (·.block) = some b → ¬ S b) :
    Calls Try.prog 50 #[.agg #[.bool true, .bool true, .bool false, .bool false, .bool false, .bool false, .bool false], v, .agg #[.int .i64 kind, .string (strOf path), .string (strOf dest), .int .i64 fd, .int .i64 at_, .int .i64 n, .int .u64 (till : Nat), .int .i64 snap, .slice A0 data.length c0]] w (WInR C v (l ++ Co.wBytes path ++ Co.wBytes dest) S w) := by
  obtain ⟨a, rfl⟩ := C.ptr h
  obtain ⟨WA, hWA⟩ : ∃ WA, WA = w.alloc (.cells #[.bool true, .bool true, .bool false, .bool false, .bool false, .bool false, .bool false] 68) := ⟨_, rfl⟩
  obtain ⟨W0, hW0⟩ : ∃ W0, W0 = WA.alloc (.cells #[.int .i64 kind, .string (strOf path), .string (strOf dest), .int .i64 fd, .int .i64 at_, .int .i64 n, .int .u64 (till : Nat), .int .i64 snap, .slice A0 data.length c0] 25) := ⟨_, rfl⟩
  obtain ⟨g, hg⟩ : ∃ g, g = w.heap.size := ⟨_, rfl⟩
  have hA : Blk WA g 68 [.bool true, .bool true, .bool false, .bool false, .bool false, .bool false, .bool false] := by rw [hWA, hg]; exact Blk.new w _ _
  have HA0 : Hid (Blk W0 g 68 [.bool true, .bool true, .bool false, .bool false, .bool false, .bool false, .bool false]) := by show Blk _ _ _ _; rw [hW0]; exact hA.alloc _
  have HO0 : Hid (Blk W0 (g + 1) 25 [.int .i64 kind, .string (strOf path), .string (strOf dest), .int .i64 fd, .int .i64 at_, .int .i64 n, .int .u64 (till : Nat), .int .i64 snap, .slice A0 data.length c0]) := by
    show Blk _ _ _ _
    rw [hW0, show g + 1 = WA.heap.size by rw [hWA, World.size_alloc, hg]]
    exact Blk.new WA _ _
  have hB : Below w.heap.size w W0 := by rw [hW0, hWA]; exact (below_new w _).trans ((below_new _ _).mono (by rw [World.size_alloc]; omega))
  have hlt := C.lt h
  have h0 : C.At (.pointer (some a)) l S W0 := C.keep h hB.size (fun b hb => hB.block b (hlt b hb))
  have HW0 : Hid (WIn C (.pointer (some a)) l S W0 W0) := WIn.start h0
  have HF : Hid (∀ l' e w', WInR C (.pointer (some a)) l' S W0 e w' → WInR C (.pointer (some a)) l' S w e w') := fun l' e w' ⟨k1, S2, k2, k3, k4⟩ => ⟨k1, S2, k2, (Mod.of_below hB S).trans k3, fun b hb => (k4 b hb).imp id (fun h => Nat.le_trans hB.size h)⟩
  have HNG : Hid (¬ S g ∧ ¬ S (g + 1)) := ⟨fun h9 => by have := hlt _ h9; omega, fun h9 => by have := hlt _ h9; omega⟩
  have HRD : Hid (Rd W0 A0 data) := hr.below hB
  have HS := Lib.hid hS
  have HL := Lib.hid hl
  have Hlp := Lib.hid lp
  have Hlt := Lib.hid lt
  have HGA : Hid (g < W0.heap.size ∧ g + 1 < W0.heap.size) := ⟨HA0.out.lt, HO0.out.lt⟩
  clear h hA hB hlt h0 hr hS hl lp lt
  go_enter Try.func50, Try.ntmps50
  go_upto_region 1 with (fail)
  rw [← hWA, ← hW0, ← hg]
  clear hWA hW0 hg
  have g0 := HA0.out.cell 0
  have g1 := HA0.out.cell 1
  have g2 := HA0.out.cell 2
  have g3 := HA0.out.cell 3
  have g4 := HA0.out.cell 4
  have g5 := HA0.out.cell 5
  have g6 := HA0.out.cell 6
  have o1 := HO0.out.cell 1
  have o2 := HO0.out.cell 2
  obtain ⟨cc0, wc0, hcv, hcc, hrc, hbc⟩ := conv_in path W0
  have HM := Lib.hid (HW0.out.bytesN (by have := HL.out; have := Hlp.out; have := Hlt.out; (try simp only [List.length_append, Co.wLong_length, Co.wShort, Co.wBytes, List.length_cons, List.length_nil, List.length_take]); omega) hbc _ path cc0 hrc (fun b hb => by injection hb with hb; exact Nat.le_of_eq hb) hcc Hlp.out)
  clear hcc hrc hbc
  go_wp2_with fail
  refine HM.out.mono ?_
  rintro e w1 ⟨⟨x1, rfl⟩, HW1⟩
  clear HM hcv
  clear g0 g1 g2 g3 g4 g5 g6 o1 o2
  have HA1 : Hid (Blk w1 g _ _) := (HW1.out.block g HGA.out.1 HNG.out.1).trans HA0.out
  have HO1 : Hid (Blk w1 (g + 1) _ _) := (HW1.out.block (g + 1) HGA.out.2 HNG.out.2).trans HO0.out
  have g0 := HA1.out.cell 0
  have g1 := HA1.out.cell 1
  have g2 := HA1.out.cell 2
  have g3 := HA1.out.cell 3
  have g4 := HA1.out.cell 4
  have g5 := HA1.out.cell 5
  have g6 := HA1.out.cell 6
  have o1 := HO1.out.cell 1
  have o2 := HO1.out.cell 2
  obtain ⟨cc1, wc1, hcv, hcc, hrc, hbc⟩ := conv_in dest w1
  have HM := Lib.hid (HW1.out.bytesN (by have := HL.out; have := Hlp.out; have := Hlt.out; (try simp only [List.length_append, Co.wLong_length, Co.wShort, Co.wBytes, List.length_cons, List.length_nil, List.length_take]); omega) hbc _ dest cc1 hrc (fun b hb => by injection hb with hb; exact Nat.le_of_eq hb) hcc Hlt.out)
  clear hcc hrc hbc
  go_wp2_with fail
  refine HM.out.mono ?_
  rintro e w2 ⟨⟨x2, rfl⟩, HW2⟩
  clear HM hcv
  clear g0 g1 g2 g3 g4 g5 g6 o1 o2
  have HA2 : Hid (Blk w2 g _ _) := (HW2.out.block g HGA.out.1 HNG.out.1).trans HA0.out
  have HO2 : Hid (Blk w2 (g + 1) _ _) := (HW2.out.block (g + 1) HGA.out.2 HNG.out.2).trans HO0.out
  have g0 := HA2.out.cell 0
  have g1 := HA2.out.cell 1
  have g2 := HA2.out.cell 2
  have g3 := HA2.out.cell 3
  have g4 := HA2.out.cell 4
  have g5 := HA2.out.cell 5
  have g6 := HA2.out.cell 6
  have o1 := HO2.out.cell 1
  have o2 := HO2.out.cell 2
  clear HW1 HA1 HO1
  go_wp2_with fail
  refine bodyPost_end (results_none rfl _ _ _) rfl ?_
  exact HF.out _ _ _ ⟨⟨_, rfl⟩, HW2⟩
set_option maxHeartbeats 4000000 in
set_option maxRecDepth 100000 in
theorem write_pu (h : C.At v l S w) (hl : l.length ≤ 1000000) (kind : Int) (path dest data : List UInt8) (fd : Int) (at_ : Int) (n : Int) (snap : Int) (till : Nat) (A0 : Option Addr) (c0 : Nat) (lp : path.length ≤ 1000000) (nu : till ≤ 18446744073709551615) (hr : Rd w A0 data) (hS : 0 < data.length → ∀ b, A0.map (·.block) = some b → ¬ S b) :
    Calls Try.prog 50 #[.agg #[.bool true, .bool false, .bool false, .bool false, .bool true, .bool false, .bool false], v, .agg #[.int .i64 kind, .string (strOf path), .string (strOf dest), .int .i64 fd, .int .i64 at_, .int .i64 n, .int .u64 (till : Nat), .int .i64 snap, .slice A0 data.length c0]] w (WInR C v (l ++ Co.wBytes path ++ Co.wLong till) S w) := by
  obtain ⟨a, rfl⟩ := C.ptr h
  obtain ⟨WA, hWA⟩ : ∃ WA, WA = w.alloc (.cells #[.bool true, .bool false, .bool false, .bool false, .bool true, .bool false, .bool false] 68) := ⟨_, rfl⟩
  obtain ⟨W0, hW0⟩ : ∃ W0, W0 = WA.alloc (.cells #[.int .i64 kind, .string (strOf path), .string (strOf dest), .int .i64 fd, .int .i64 at_, .int .i64 n, .int .u64 (till : Nat), .int .i64 snap, .slice A0 data.length c0] 25) := ⟨_, rfl⟩
  obtain ⟨g, hg⟩ : ∃ g, g = w.heap.size := ⟨_, rfl⟩
  have hA : Blk WA g 68 [.bool true, .bool false, .bool false, .bool false, .bool true, .bool false, .bool false] := by rw [hWA, hg]; exact Blk.new w _ _
  have HA0 : Hid (Blk W0 g 68 [.bool true, .bool false, .bool false, .bool false, .bool true, .bool false, .bool false]) := by show Blk _ _ _ _; rw [hW0]; exact hA.alloc _
  have HO0 : Hid (Blk W0 (g + 1) 25 [.int .i64 kind, .string (strOf path), .string (strOf dest), .int .i64 fd, .int .i64 at_, .int .i64 n, .int .u64 (till : Nat), .int .i64 snap, .slice A0 data.length c0]) := by
    show Blk _ _ _ _
    rw [hW0, show g + 1 = WA.heap.size by rw [hWA, World.size_alloc, hg]]
    exact Blk.new WA _ _
  have hB : Below w.heap.size w W0 := by rw [hW0, hWA]; exact (below_new w _).trans ((below_new _ _).mono (by rw [World.size_alloc]; omega))
  have hlt := C.lt h
  have h0 : C.At (.pointer (some a)) l S W0 := C.keep h hB.size (fun b hb => hB.block b (hlt b hb))
  have HW0 : Hid (WIn C (.pointer (some a)) l S W0 W0) := WIn.start h0
  have HF : Hid (∀ l' e w', WInR C (.pointer (some a)) l' S W0 e w' → WInR C (.pointer (some a)) l' S w e w') := fun l' e w' ⟨k1, S2, k2, k3, k4⟩ => ⟨k1, S2, k2, (Mod.of_below hB S).trans k3, fun b hb => (k4 b hb).imp id (fun h => Nat.le_trans hB.size h)⟩
  have HNG : Hid (¬ S g ∧ ¬ S (g + 1)) := ⟨fun h9 => by have := hlt _ h9; omega, fun h9 => by have := hlt _ h9; omega⟩
  have HRD : Hid (Rd W0 A0 data) := hr.below hB
  have HS := Lib.hid hS
  have HL := Lib.hid hl
  have Hlp := Lib.hid lp
  have Hnu := Lib.hid nu
  have HGA : Hid (g < W0.heap.size ∧ g + 1 < W0.heap.size) := ⟨HA0.out.lt, HO0.out.lt⟩
  clear h hA hB hlt h0 hr hS hl lp nu
  go_enter Try.func50, Try.ntmps50
  go_upto_region 1 with (fail)
  rw [← hWA, ← hW0, ← hg]
  clear hWA hW0 hg
  have g0 := HA0.out.cell 0
  have g1 := HA0.out.cell 1
  have g2 := HA0.out.cell 2
  have g3 := HA0.out.cell 3
  have g4 := HA0.out.cell 4
  have g5 := HA0.out.cell 5
  have g6 := HA0.out.cell 6
  have o1 := HO0.out.cell 1
  have o6 := HO0.out.cell 6
  obtain ⟨cc0, wc0, hcv, hcc, hrc, hbc⟩ := conv_in path W0
  have HM := Lib.hid (HW0.out.bytesN (by have := HL.out; have := Hlp.out; have := Hnu.out; (try simp only [List.length_append, Co.wLong_length, Co.wShort, Co.wBytes, List.length_cons, List.length_nil, List.length_take]); omega) hbc _ path cc0 hrc (fun b hb => by injection hb with hb; exact Nat.le_of_eq hb) hcc Hlp.out)
  clear hcc hrc hbc
  go_wp2_with fail
  refine HM.out.mono ?_
  rintro e w1 ⟨⟨x1, rfl⟩, HW1⟩
  clear HM hcv
  clear g0 g1 g2 g3 g4 g5 g6 o1 o6
  have HA1 : Hid (Blk w1 g _ _) := (HW1.out.block g HGA.out.1 HNG.out.1).trans HA0.out
  have HO1 : Hid (Blk w1 (g + 1) _ _) := (HW1.out.block (g + 1) HGA.out.2 HNG.out.2).trans HO0.out
  have g0 := HA1.out.cell 0
  have g1 := HA1.out.cell 1
  have g2 := HA1.out.cell 2
  have g3 := HA1.out.cell 3
  have g4 := HA1.out.cell 4
  have g5 := HA1.out.cell 5
  have g6 := HA1.out.cell 6
  have o1 := HO1.out.cell 1
  have o6 := HO1.out.cell 6
  have HM := Lib.hid (HW1.out.long (by have := HL.out; have := Hlp.out; have := Hnu.out; (try simp only [List.length_append, Co.wLong_length, Co.wShort, Co.wBytes, List.length_cons, List.length_nil, List.length_take]); omega) till Hnu.out)
  go_wp2_with fail
  refine HM.out.mono ?_
  rintro e w2 ⟨⟨x2, rfl⟩, HW2⟩
  clear HM
  clear g0 g1 g2 g3 g4 g5 g6 o1 o6
  have HA2 : Hid (Blk w2 g _ _) := (HW2.out.block g HGA.out.1 HNG.out.1).trans HA0.out
  have HO2 : Hid (Blk w2 (g + 1) _ _) := (HW2.out.block (g + 1) HGA.out.2 HNG.out.2).trans HO0.out
  have g0 := HA2.out.cell 0
  have g1 := HA2.out.cell 1
  have g2 := HA2.out.cell 2
  have g3 := HA2.out.cell 3
  have g4 := HA2.out.cell 4
  have g5 := HA2.out.cell 5
  have g6 := HA2.out.cell 6
  have o1 := HO2.out.cell 1
  have o6 := HO2.out.cell 6
  clear HW1 HA1 HO1
  go_wp2_with fail
  refine bodyPost_end (results_none rfl _ _ _) rfl ?_
  exact HF.out _ _ _ ⟨⟨_, rfl⟩, HW2⟩
set_option maxHeartbeats 4000000 in
set_option maxRecDepth 100000 in
theorem write_s (h : C.At v l S w) (hl : l.length ≤ 1000000) (kind : Int) (path dest data : List UInt8) (fd : Int) (at_ : Int) (n : Int) (snap : Nat) (till : Nat) (A0 : Option Addr) (c0 : Nat) (ns : snap ≤ 65535) (hr : Rd w A0 data) (hS : 0 < data.length → ∀ b, A0.map (·.block) = some b → ¬ S b) :
    Calls Try.prog 50 #[.agg #[.bool false, .bool false, .bool false, .bool false, .bool false, .bool true, .bool false], v, .agg #[.int .i64 kind, .string (strOf path), .string (strOf dest), .int .i64 fd, .int .i64 at_, .int .i64 n, .int .u64 (till : Nat), .int .i64 (snap : Nat), .slice A0 data.length c0]] w (WInR C v (l ++ Co.wShort snap) S w) := by
  obtain ⟨a, rfl⟩ := C.ptr h
  obtain ⟨WA, hWA⟩ : ∃ WA, WA = w.alloc (.cells #[.bool false, .bool false, .bool false, .bool false, .bool false, .bool true, .bool false] 68) := ⟨_, rfl⟩
  obtain ⟨W0, hW0⟩ : ∃ W0, W0 = WA.alloc (.cells #[.int .i64 kind, .string (strOf path), .string (strOf dest), .int .i64 fd, .int .i64 at_, .int .i64 n, .int .u64 (till : Nat), .int .i64 (snap : Nat), .slice A0 data.length c0] 25) := ⟨_, rfl⟩
  obtain ⟨g, hg⟩ : ∃ g, g = w.heap.size := ⟨_, rfl⟩
  have hA : Blk WA g 68 [.bool false, .bool false, .bool false, .bool false, .bool false, .bool true, .bool false] := by rw [hWA, hg]; exact Blk.new w _ _
  have HA0 : Hid (Blk W0 g 68 [.bool false, .bool false, .bool false, .bool false, .bool false, .bool true, .bool false]) := by show Blk _ _ _ _; rw [hW0]; exact hA.alloc _
  have HO0 : Hid (Blk W0 (g + 1) 25 [.int .i64 kind, .string (strOf path), .string (strOf dest), .int .i64 fd, .int .i64 at_, .int .i64 n, .int .u64 (till : Nat), .int .i64 (snap : Nat), .slice A0 data.length c0]) := by
    show Blk _ _ _ _
    rw [hW0, show g + 1 = WA.heap.size by rw [hWA, World.size_alloc, hg]]
    exact Blk.new WA _ _
  have hB : Below w.heap.size w W0 := by rw [hW0, hWA]; exact (below_new w _).trans ((below_new _ _).mono (by rw [World.size_alloc]; omega))
  have hlt := C.lt h
  have h0 : C.At (.pointer (some a)) l S W0 := C.keep h hB.size (fun b hb => hB.block b (hlt b hb))
  have HW0 : Hid (WIn C (.pointer (some a)) l S W0 W0) := WIn.start h0
  have HF : Hid (∀ l' e w', WInR C (.pointer (some a)) l' S W0 e w' → WInR C (.pointer (some a)) l' S w e w') := fun l' e w' ⟨k1, S2, k2, k3, k4⟩ => ⟨k1, S2, k2, (Mod.of_below hB S).trans k3, fun b hb => (k4 b hb).imp id (fun h => Nat.le_trans hB.size h)⟩
  have HNG : Hid (¬ S g ∧ ¬ S (g + 1)) := ⟨fun h9 => by have := hlt _ h9; omega, fun h9 => by have := hlt _ h9; omega⟩
  have HRD : Hid (Rd W0 A0 data) := hr.below hB
  have HS := Lib.hid hS
  have HL := Lib.hid hl
  have Hns := Lib.hid ns
  have HGA : Hid (g < W0.heap.size ∧ g + 1 < W0.heap.size) := ⟨HA0.out.lt, HO0.out.lt⟩
  clear h hA hB hlt h0 hr hS hl ns
  go_enter Try.func50, Try.ntmps50
  go_upto_region 1 with (fail)
  rw [← hWA, ← hW0, ← hg]
  clear hWA hW0 hg
  have g0 := HA0.out.cell 0
  have g1 := HA0.out.cell 1
  have g2 := HA0.out.cell 2
  have g3 := HA0.out.cell 3
  have g4 := HA0.out.cell 4
  have g5 := HA0.out.cell 5
  have g6 := HA0.out.cell 6
  have o7 := HO0.out.cell 7
  have HM := Lib.hid (HW0.out.short (by have := HL.out; have := Hns.out; (try simp only [List.length_append, Co.wLong_length, Co.wShort, Co.wBytes, List.length_cons, List.length_nil, List.length_take]); omega) snap (Nat.le_trans Hns.out (by decide)))
  go_wp2_with fail
  refine HM.out.mono ?_
  rintro e w1 ⟨⟨x1, rfl⟩, HW1⟩
  clear HM
  clear g0 g1 g2 g3 g4 g5 g6 o7
  have HA1 : Hid (Blk w1 g _ _) := (HW1.out.block g HGA.out.1 HNG.out.1).trans HA0.out
  have HO1 : Hid (Blk w1 (g + 1) _ _) := (HW1.out.block (g + 1) HGA.out.2 HNG.out.2).trans HO0.out
  have g0 := HA1.out.cell 0
  have g1 := HA1.out.cell 1
  have g2 := HA1.out.cell 2
  have g3 := HA1.out.cell 3
  have g4 := HA1.out.cell 4
  have g5 := HA1.out.cell 5
  have g6 := HA1.out.cell 6
  have o7 := HO1.out.cell 7
  go_wp2_with fail
  refine bodyPost_end (results_none rfl _ _ _) rfl ?_
  exact HF.out _ _ _ ⟨⟨_, rfl⟩, HW1⟩
set_option maxHeartbeats 4000000 in
set_option maxRecDepth 100000 in
theorem write_u (h : C.At v l S w) (hl : l.length ≤ 1000000) (kind : Int) (path dest data : List UInt8) (fd : Int) (at_ : Int) (n : Int) (snap : Int) (till : Nat) (A0 : Option Addr) (c0 : Nat) (nu : till ≤ 18446744073709551615) (hr : Rd w A0 data) (hS : 0 < data.length → ∀ b, A0.map (·.block) = some b → ¬ S b) :
    Calls Try.prog 50 #[.agg #[.bool false, .bool false, .bool false, .bool false, .bool true, .bool false, .bool false], v, .agg #[.int .i64 kind, .string (strOf path), .string (strOf dest), .int .i64 fd, .int .i64 at_, .int .i64 n, .int .u64 (till : Nat), .int .i64 snap, .slice A0 data.length c0]] w (WInR C v (l ++ Co.wLong till) S w) := by
  obtain ⟨a, rfl⟩ := C.ptr h
  obtain ⟨WA, hWA⟩ : ∃ WA, WA = w.alloc (.cells #[.bool false, .bool false, .bool false, .bool false, .bool true, .bool false, .bool false] 68) := ⟨_, rfl⟩
  obtain ⟨W0, hW0⟩ : ∃ W0, W0 = WA.alloc (.cells #[.int .i64 kind, .string (strOf path), .string (strOf dest), .int .i64 fd, .int .i64 at_, .int .i64 n, .int .u64 (till : Nat), .int .i64 snap, .slice A0 data.length c0] 25) := ⟨_, rfl⟩
  obtain ⟨g, hg⟩ : ∃ g, g = w.heap.size := ⟨_, rfl⟩
  have hA : Blk WA g 68 [.bool false, .bool false, .bool false, .bool false, .bool true, .bool false, .bool false] := by rw [hWA, hg]; exact Blk.new w _ _
  have HA0 : Hid (Blk W0 g 68 [.bool false, .bool false, .bool false, .bool false, .bool true, .bool false, .bool false]) := by show Blk _ _ _ _; rw [hW0]; exact hA.alloc _
  have HO0 : Hid (Blk W0 (g + 1) 25 [.int .i64 kind, .string (strOf path), .string (strOf dest), .int .i64 fd, .int .i64 at_, .int .i64 n, .int .u64 (till : Nat), .int .i64 snap, .slice A0 data.length c0]) := by
    show Blk _ _ _ _
    rw [hW0, show g + 1 = WA.heap.size by rw [hWA, World.size_alloc, hg]]
    exact Blk.new WA _ _
  have hB : Below w.heap.size w W0 := by rw [hW0, hWA]; exact (below_new w _).trans ((below_new _ _).mono (by rw [World.size_alloc]; omega))
  have hlt := C.lt h
  have h0 : C.At (.pointer (some a)) l S W0 := C.keep h hB.size (fun b hb => hB.block b (hlt b hb))
  have HW0 : Hid (WIn C (.pointer (some a)) l S W0 W0) := WIn.start h0
  have HF : Hid (∀ l' e w', WInR C (.pointer (some a)) l' S W0 e w' → WInR C (.pointer (some a)) l' S w e w') := fun l' e w' ⟨k1, S2, k2, k3, k4⟩ => ⟨k1, S2, k2, (Mod.of_below hB S).trans k3, fun b hb => (k4 b hb).imp id (fun h => Nat.le_trans hB.size h)⟩
  have HNG : Hid (¬ S g ∧ ¬ S (g + 1)) := ⟨fun h9 => by have := hlt _ h9; omega, fun h9 => by have := hlt _ h9; omega⟩
  have HRD : Hid (Rd W0 A0 data) := hr.below hB
  have HS := Lib.hid hS
  have HL := Lib.hid hl
  have Hnu := Lib.hid nu
  have HGA : Hid (g < W0.heap.size ∧ g + 1 < W0.heap.size) := ⟨HA0.out.lt, HO0.out.lt⟩
  clear h hA hB hlt h0 hr hS hl nu
  go_enter Try.func50, Try.ntmps50
  go_upto_region 1 with (fail)
  rw [← hWA, ← hW0, ← hg]
  clear hWA hW0 hg
  have g0 := HA0.out.cell 0
  have g1 := HA0.out.cell 1
  have g2 := HA0.out.cell 2
  have g3 := HA0.out.cell 3
  have g4 := HA0.out.cell 4
  have g5 := HA0.out.cell 5
  have g6 := HA0.out.cell 6
  have o6 := HO0.out.cell 6
  have HM := Lib.hid (HW0.out.long (by have := HL.out; have := Hnu.out; (try simp only [List.length_append, Co.wLong_length, Co.wShort, Co.wBytes, List.length_cons, List.length_nil, List.length_take]); omega) till Hnu.out)
  go_wp2_with fail
  refine HM.out.mono ?_
  rintro e w1 ⟨⟨x1, rfl⟩, HW1⟩
  clear HM
  clear g0 g1 g2 g3 g4 g5 g6 o6
  have HA1 : Hid (Blk w1 g _ _) := (HW1.out.block g HGA.out.1 HNG.out.1).trans HA0.out
  have HO1 : Hid (Blk w1 (g + 1) _ _) := (HW1.out.block (g + 1) HGA.out.2 HNG.out.2).trans HO0.out
  have g0 := HA1.out.cell 0
  have g1 := HA1.out.cell 1
  have g2 := HA1.out.cell 2
  have g3 := HA1.out.cell 3
  have g4 := HA1.out.cell 4
  have g5 := HA1.out.cell 5
  have g6 := HA1.out.cell 6
  have o6 := HO1.out.cell 6
  go_wp2_with fail
  refine bodyPost_end (results_none rfl _ _ _) rfl ?_
  exact HF.out _ _ _ ⟨⟨_, rfl⟩, HW1⟩
set_option maxHeartbeats 4000000 in
set_option maxRecDepth 100000 in
theorem write_z (h : C.At v l S w) (hl : l.length ≤ 1000000) (kind : Int) (path dest data : List UInt8) (fd : Int) (at_ : Int) (n : Int) (snap : Int) (till : Nat) (A0 : Option Addr) (c0 : Nat)  (hr : Rd w A0 data) (hS : 0 < data.length → ∀ b, A0.map (·.block) = some b → ¬ S b) :
    Calls Try.prog 50 #[.agg #[.bool false, .bool false, .bool false, .bool false, .bool false, .bool false, .bool false], v, .agg #[.int .i64 kind, .string (strOf path), .string (strOf dest), .int .i64 fd, .int .i64 at_, .int .i64 n, .int .u64 (till : Nat), .int .i64 snap, .slice A0 data.length c0]] w (WInR C v (l) S w) := by
  obtain ⟨a, rfl⟩ := C.ptr h
  obtain ⟨WA, hWA⟩ : ∃ WA, WA = w.alloc (.cells #[.bool false, .bool false, .bool false, .bool false, .bool false, .bool false, .bool false] 68) := ⟨_, rfl⟩
  obtain ⟨W0, hW0⟩ : ∃ W0, W0 = WA.alloc (.cells #[.int .i64 kind, .string (strOf path), .string (strOf dest), .int .i64 fd, .int .i64 at_, .int .i64 n, .int .u64 (till : Nat), .int .i64 snap, .slice A0 data.length c0] 25) := ⟨_, rfl⟩
  obtain ⟨g, hg⟩ : ∃ g, g = w.heap.size := ⟨_, rfl⟩
  have hA : Blk WA g 68 [.bool false, .bool false, .bool false, .bool false, .bool false, .bool false, .bool false] := by rw [hWA, hg]; exact Blk.new w _ _
  have HA0 : Hid (Blk W0 g 68 [.bool false, .bool false, .bool false, .bool false, .bool false, .bool false, .bool false]) := by show Blk _ _ _ _; rw [hW0]; exact hA.alloc _
  have HO0 : Hid (Blk W0 (g + 1) 25 [.int .i64 kind, .string (strOf path), .string (strOf dest), .int .i64 fd, .int .i64 at_, .int .i64 n, .int .u64 (till : Nat), .int .i64 snap, .slice A0 data.length c0]) := by
    show Blk _ _ _ _
    rw [hW0, show g + 1 = WA.heap.size by rw [hWA, World.size_alloc, hg]]
    exact Blk.new WA _ _
  have hB : Below w.heap.size w W0 := by rw [hW0, hWA]; exact (below_new w _).trans ((below_new _ _).mono (by rw [World.size_alloc]; omega))
  have hlt := C.lt h
  have h0 : C.At (.pointer (some a)) l S W0 := C.keep h hB.size (fun b hb => hB.block b (hlt b hb))
  have HW0 : Hid (WIn C (.pointer (some a)) l S W0 W0) := WIn.start h0
  have HF : Hid (∀ l' e w', WInR C (.pointer (some a)) l' S W0 e w' → WInR C (.pointer (some a)) l' S w e w') := fun l' e w' ⟨k1, S2, k2, k3, k4⟩ => ⟨k1, S2, k2, (Mod.of_below hB S).trans k3, fun b hb => (k4 b hb).imp id (fun h => Nat.le_trans hB.size h)⟩
  have HNG : Hid (¬ S g ∧ ¬ S (g + 1)) := ⟨fun h9 => by have := hlt _ h9; omega, fun h9 => by have := hlt _ h9; omega⟩
  have HRD : Hid (Rd W0 A0 data) := hr.below hB
  have HS := Lib.hid hS
  have HL := Lib.hid hl
  have HGA : Hid (g < W0.heap.size ∧ g + 1 < W0.heap.size) := ⟨HA0.out.lt, HO0.out.lt⟩
  clear h hA hB hlt h0 hr hS hl
  go_enter Try.func50, Try.ntmps50
  go_upto_region 1 with (fail)
  rw [← hWA, ← hW0, ← hg]
  clear hWA hW0 hg
  have g0 := HA0.out.cell 0
  have g1 := HA0.out.cell 1
  have g2 := HA0.out.cell 2
  have g3 := HA0.out.cell 3
  have g4 := HA0.out.cell 4
  have g5 := HA0.out.cell 5
  have g6 := HA0.out.cell 6
  go_wp2_with fail
  refine bodyPost_end (results_none rfl _ _ _) rfl ?_
  exact HF.out _ _ _ ⟨⟨_, rfl⟩, HW0⟩
def tail (o : Opn) : List UInt8 := put (hasPath o.kind) (Co.wBytes o.path) ++ (put (hasTo o.kind) (Co.wBytes o.dest) ++ (put (hasFd o.kind) (Co.wShort o.fd.toNat) ++ (put (hasSpan o.kind) (Co.wShort o.at_.toNat) ++ (put (hasSpan o.kind) (Co.wShort o.n.toNat) ++ (put (hasTill o.kind) (Co.wLong o.till) ++ (put (hasSnap o.kind) (Co.wShort o.snap.toNat) ++ put (hasData o.kind) (Co.wBytes o.data)))))))
theorem form_tail (o : Opn) : form o = Co.wByte o.kind.toNat ++ tail o := rfl
theorem write_any (o : Opn) (hk : Kd o.kind) (hL : ¬ Long (asked o)) (hH : Shorts (asked o)) (hu : o.till ≤ 18446744073709551615) (h : C.At v l S w) (hl : l.length ≤ 1000000) (A0 : Option Addr) (c0 : Nat) (hc : o.data.length ≤ c0) (hr : Rd w A0 o.data) (hS : 0 < o.data.length → ∀ b, A0.map (·.block) = some b → ¬ S b) :
    Calls Try.prog 50 #[.agg #[.bool (hasPath o.kind), .bool (hasTo o.kind), .bool (hasFd o.kind), .bool (hasSpan o.kind), .bool (hasTill o.kind), .bool (hasSnap o.kind), .bool (hasData o.kind)], v, opV o (.slice A0 o.data.length c0)] w (WInR C v (l ++ tail o) S w) := by
  obtain ⟨kind, path, dest, fd, at_, n, till, snap, data⟩ := o
  dsimp only at hk hu hc hr hS ⊢
  unfold Long at hL
  obtain ⟨s1, s2, s3, s4⟩ := hH
  rcases kd_cases hk with rfl | rfl | rfl | rfl | rfl | rfl | rfl | rfl | rfl | rfl | rfl | rfl | rfl | rfl | rfl | rfl | rfl
  · have lp : path.length ≤ 1000000 := by have : ¬ (200 < path.length ∨ _ ∨ _) := hL; omega
    refine (write_p h hl 1 path dest data fd at_ n snap till A0 c0 lp hr hS).mono fun e w' hh => ⟨hh.1, hh.2.out.eq ?_⟩
    simp [tail, put, hasPath, hasTo, hasFd, hasSpan, hasTill, hasSnap, hasData, St.asks1, St.asks2]
  · have lp : path.length ≤ 1000000 := by have : ¬ (200 < path.length ∨ _ ∨ _) := hL; omega
    refine (write_p h hl 2 path dest data fd at_ n snap till A0 c0 lp hr hS).mono fun e w' hh => ⟨hh.1, hh.2.out.eq ?_⟩
    simp [tail, put, hasPath, hasTo, hasFd, hasSpan, hasTill, hasSnap, hasData, St.asks1, St.asks2]
  · have ts : sh snap := s4
    obtain ⟨xs, hxs⟩ : ∃ x : Nat, snap = x := ⟨snap.toNat, by unfold sh at ts; omega⟩
    subst hxs
    have ns : xs ≤ 65535 := by unfold sh at ts; omega
    have lp : path.length ≤ 1000000 := by have : ¬ (200 < path.length ∨ _ ∨ _) := hL; omega
    refine (write_ps h hl 3 path dest data fd at_ n xs till A0 c0 lp ns hr hS).mono fun e w' hh => ⟨hh.1, hh.2.out.eq ?_⟩
    simp [tail, put, hasPath, hasTo, hasFd, hasSpan, hasTill, hasSnap, hasData, St.asks1, St.asks2]
  · have tf : sh fd := s1
    obtain ⟨xf, hxf⟩ : ∃ x : Nat, fd = x := ⟨fd.toNat, by unfold sh at tf; omega⟩
    subst hxf
    have nf : xf ≤ 65535 := by unfold sh at tf; omega
    have ta : sh at_ := s2
    obtain ⟨xa, hxa⟩ : ∃ x : Nat, at_ = x := ⟨at_.toNat, by unfold sh at ta; omega⟩
    subst hxa
    have na : xa ≤ 65535 := by unfold sh at ta; omega
    have tn : sh n := s3
    obtain ⟨xn, hxn⟩ : ∃ x : Nat, n = x := ⟨n.toNat, by unfold sh at tn; omega⟩
    subst hxn
    have nn : xn ≤ 65535 := by unfold sh at tn; omega
    refine (write_fan h hl 4 path dest data xf xa xn snap till A0 c0 nf na nn hr hS).mono fun e w' hh => ⟨hh.1, hh.2.out.eq ?_⟩
    simp [tail, put, hasPath, hasTo, hasFd, hasSpan, hasTill, hasSnap, hasData, St.asks1, St.asks2]
  · have tf : sh fd := s1
    obtain ⟨xf, hxf⟩ : ∃ x : Nat, fd = x := ⟨fd.toNat, by unfold sh at tf; omega⟩
    subst hxf
    have nf : xf ≤ 65535 := by unfold sh at tf; omega
    have ld : data.length ≤ 1000000 ∧ data.length ≤ c0 := ⟨by have : ¬ (_ ∨ _ ∨ 600 < data.length) := hL; omega, hc⟩
    refine (write_fd h hl 5 path dest data xf at_ n snap till A0 c0 nf ld hr hS).mono fun e w' hh => ⟨hh.1, hh.2.out.eq ?_⟩
    simp [tail, put, hasPath, hasTo, hasFd, hasSpan, hasTill, hasSnap, hasData, St.asks1, St.asks2]
  · have tf : sh fd := s1
    obtain ⟨xf, hxf⟩ : ∃ x : Nat, fd = x := ⟨fd.toNat, by unfold sh at tf; omega⟩
    subst hxf
    have nf : xf ≤ 65535 := by unfold sh at tf; omega
    have nu := hu
    refine (write_fu h hl 6 path dest data xf at_ n snap till A0 c0 nf nu hr hS).mono fun e w' hh => ⟨hh.1, hh.2.out.eq ?_⟩
    simp [tail, put, hasPath, hasTo, hasFd, hasSpan, hasTill, hasSnap, hasData, St.asks1, St.asks2]
  · have lp : path.length ≤ 1000000 := by have : ¬ (200 < path.length ∨ _ ∨ _) := hL; omega
    have lt : dest.length ≤ 1000000 := by have : ¬ (_ ∨ 200 < dest.length ∨ _) := hL; omega
    refine (write_pt h hl 7 path dest data fd at_ n snap till A0 c0 lp lt hr hS).mono fun e w' hh => ⟨hh.1, hh.2.out.eq ?_⟩
    simp [tail, put, hasPath, hasTo, hasFd, hasSpan, hasTill, hasSnap, hasData, St.asks1, St.asks2]
  · have lp : path.length ≤ 1000000 := by have : ¬ (200 < path.length ∨ _ ∨ _) := hL; omega
    refine (write_p h hl 8 path dest data fd at_ n snap till A0 c0 lp hr hS).mono fun e w' hh => ⟨hh.1, hh.2.out.eq ?_⟩
    simp [tail, put, hasPath, hasTo, hasFd, hasSpan, hasTill, hasSnap, hasData, St.asks1, St.asks2]
  · have lp : path.length ≤ 1000000 := by have : ¬ (200 < path.length ∨ _ ∨ _) := hL; omega
    refine (write_p h hl 9 path dest data fd at_ n snap till A0 c0 lp hr hS).mono fun e w' hh => ⟨hh.1, hh.2.out.eq ?_⟩
    simp [tail, put, hasPath, hasTo, hasFd, hasSpan, hasTill, hasSnap, hasData, St.asks1, St.asks2]
  · have lp : path.length ≤ 1000000 := by have : ¬ (200 < path.length ∨ _ ∨ _) := hL; omega
    have lt : dest.length ≤ 1000000 := by have : ¬ (_ ∨ 200 < dest.length ∨ _) := hL; omega
    refine (write_pt h hl 10 path dest data fd at_ n snap till A0 c0 lp lt hr hS).mono fun e w' hh => ⟨hh.1, hh.2.out.eq ?_⟩
    simp [tail, put, hasPath, hasTo, hasFd, hasSpan, hasTill, hasSnap, hasData, St.asks1, St.asks2]
  · have ts : sh snap := s4
    obtain ⟨xs, hxs⟩ : ∃ x : Nat, snap = x := ⟨snap.toNat, by unfold sh at ts; omega⟩
    subst hxs
    have ns : xs ≤ 65535 := by unfold sh at ts; omega
    have lp : path.length ≤ 1000000 := by have : ¬ (200 < path.length ∨ _ ∨ _) := hL; omega
    refine (write_ps h hl 11 path dest data fd at_ n xs till A0 c0 lp ns hr hS).mono fun e w' hh => ⟨hh.1, hh.2.out.eq ?_⟩
    simp [tail, put, hasPath, hasTo, hasFd, hasSpan, hasTill, hasSnap, hasData, St.asks1, St.asks2]
  · have ts : sh snap := s4
    obtain ⟨xs, hxs⟩ : ∃ x : Nat, snap = x := ⟨snap.toNat, by unfold sh at ts; omega⟩
    subst hxs
    have ns : xs ≤ 65535 := by unfold sh at ts; omega
    have lp : path.length ≤ 1000000 := by have : ¬ (200 < path.length ∨ _ ∨ _) := hL; omega
    refine (write_ps h hl 12 path dest data fd at_ n xs till A0 c0 lp ns hr hS).mono fun e w' hh => ⟨hh.1, hh.2.out.eq ?_⟩
    simp [tail, put, hasPath, hasTo, hasFd, hasSpan, hasTill, hasSnap, hasData, St.asks1, St.asks2]
  · have lp : path.length ≤ 1000000 := by have : ¬ (200 < path.length ∨ _ ∨ _) := hL; omega
    have nu := hu
    refine (write_pu h hl 13 path dest data fd at_ n snap till A0 c0 lp nu hr hS).mono fun e w' hh => ⟨hh.1, hh.2.out.eq ?_⟩
    simp [tail, put, hasPath, hasTo, hasFd, hasSpan, hasTill, hasSnap, hasData, St.asks1, St.asks2]
  · refine (write_z h hl 14 path dest data fd at_ n snap till A0 c0  hr hS).mono fun e w' hh => ⟨hh.1, hh.2.out.eq ?_⟩
    simp [tail, put, hasPath, hasTo, hasFd, hasSpan, hasTill, hasSnap, hasData, St.asks1, St.asks2]
  · have ts : sh snap := s4
    obtain ⟨xs, hxs⟩ : ∃ x : Nat, snap = x := ⟨snap.toNat, by unfold sh at ts; omega⟩
    subst hxs
    have ns : xs ≤ 65535 := by unfold sh at ts; omega
    refine (write_s h hl 15 path dest data fd at_ n xs till A0 c0 ns hr hS).mono fun e w' hh => ⟨hh.1, hh.2.out.eq ?_⟩
    simp [tail, put, hasPath, hasTo, hasFd, hasSpan, hasTill, hasSnap, hasData, St.asks1, St.asks2]
  · have nu := hu
    refine (write_u h hl 16 path dest data fd at_ n snap till A0 c0 nu hr hS).mono fun e w' hh => ⟨hh.1, hh.2.out.eq ?_⟩
    simp [tail, put, hasPath, hasTo, hasFd, hasSpan, hasTill, hasSnap, hasData, St.asks1, St.asks2]
  · refine (write_z h hl 17 path dest data fd at_ n snap till A0 c0  hr hS).mono fun e w' hh => ⟨hh.1, hh.2.out.eq ?_⟩
    simp [tail, put, hasPath, hasTo, hasFd, hasSpan, hasTill, hasSnap, hasData, St.asks1, St.asks2]
end Op
end Go.Proofs.Ytmcbpgbiephllaa

namespace Go.Proofs.Ytmcbpgbiephllaa
open Go.RowKit Rc
open St (Opn)
namespace Op
def EAns (b : List UInt8) (k : Nat) (w : World) (e : Ending) (w' : World) : Prop := ∃ X c, e = .returned (.tuple #[.slice X b.length c, .int .i64 (k : Nat)]) ∧ b.length ≤ c ∧ Rd w' X b ∧ Below w.heap.size w w'
theorem EAns.no {k : Nat} {w w' : World} (h : Below w.heap.size w w') : EAns [] k w (.returned (.tuple #[.slice none 0 0, .int .i64 (k : Nat)])) w' := ⟨none, 0, rfl, Nat.le_refl _, Rd.nil _ _, h⟩
theorem long_is (o : Opn) : ((hasPath o.kind && decide (200 < o.path.length)) || (hasTo o.kind && decide (200 < o.dest.length)) || (hasData o.kind && decide (600 < o.data.length))) = decide (Long (asked o)) := by
  obtain ⟨k, p, t, f, a, n, u, s, d⟩ := o
  unfold Long asked
  dsimp only
  cases hasPath k <;> cases hasTo k <;> cases hasData k <;> simp [or_assoc, Bool.or_assoc]
theorem shorts_is (o : Opn) : ((!hasFd o.kind || decide (sh o.fd)) && (!hasSnap o.kind || decide (sh o.snap)) && (!hasSpan o.kind || (decide (sh o.at_) && decide (sh o.n)))) = decide (Shorts (asked o)) := by
  obtain ⟨k, p, t, f, a, n, u, s, d⟩ := o
  have h0 : sh 0 := by decide
  unfold Shorts asked
  dsimp only
  cases hasFd k <;> cases hasSnap k <;> cases hasSpan k <;> simp [h0]
  all_goals
    by_cases h1 : sh f <;> by_cases h2 : sh s <;> by_cases h3 : sh a <;> by_cases h4 : sh n <;> simp [h1, h2, h3, h4]
set_option maxHeartbeats 4000000 in
set_option maxRecDepth 100000 in
theorem encode_any (C : WSaid) (o : Opn) (hu : o.till ≤ 18446744073709551615) (w : World) (A0 : Option Addr) (c0 : Nat) (hc : o.data.length ≤ c0) (hr : Rd w A0 o.data) :
    Calls Try.prog 21 #[opV o (.slice A0 o.data.length c0)] w (EAns (enc o).1 (enc o).2 w) := by
  have HLO := Lib.hid (long_is o)
  have HSO := Lib.hid (shorts_is o)
  have HWR : Hid (∀ v l S W, Kd o.kind → ¬ Long (asked o) → Shorts (asked o) → o.till ≤ 18446744073709551615 → C.At v l S W → l.length ≤ 1000000 → o.data.length ≤ c0 → Rd W A0 o.data → (0 < o.data.length → ∀ b, A0.map (·.block) = some b → ¬ S b) → Calls Try.prog 50 #[.agg #[.bool (hasPath o.kind), .bool (hasTo o.kind), .bool (hasFd o.kind), .bool (hasSpan o.kind), .bool (hasTill o.kind), .bool (hasSnap o.kind), .bool (hasData o.kind)], v, opV o (.slice A0 o.data.length c0)] W (WInR C v (l ++ tail o) S W)) := fun v l S W h1 h2 h3 h4 h5 h6 h7 h8 h9 => write_any o h1 h2 h3 h4 h5 h6 A0 c0 h7 h8 h9
  have HFT := Lib.hid (form_tail o)
  have HE1 : Hid (¬ Kd o.kind → enc o = ([], 30)) := fun h => by
    have : err o = 30 := (by unfold err; rw [if_pos h])
    unfold enc
    rw [this]
    rfl
  have HE2 : Hid (Kd o.kind → Long (asked o) → enc o = ([], 3)) := fun h h2 => by
    have : err o = 3 := (by unfold err; rw [if_neg (fun h' => h' h), if_pos h2])
    unfold enc
    rw [this]
    rfl
  have HE3 : Hid (Kd o.kind → ¬ Long (asked o) → ¬ Shorts (asked o) → enc o = ([], 1)) := fun h h2 h3 => by
    have : err o = 1 := (by unfold err; rw [if_neg (fun h' => h' h), if_neg h2, if_pos h3])
    unfold enc
    rw [this]
    rfl
  have HE4 : Hid (Kd o.kind → ¬ Long (asked o) → Shorts (asked o) → enc o = (form o, 0)) := fun h h2 h3 => by unfold enc; rw [err_of h h2 h3]; rfl
  have HTL : Hid (∀ a0 a1 a2 a3 a4 a5 a6 W, Calls Try.prog 46 #[.agg #[.bool a0, .bool a1, .bool a2, .bool a3, .bool a4, .bool a5, .bool a6], opV o (.slice A0 o.data.length c0)] W fun e w' => e = .returned (.bool ((a0 && decide (200 < o.path.length)) || (a1 && decide (200 < o.dest.length)) || (a6 && decide (600 < o.data.length)))) ∧ Below W.heap.size W w') := fun a0 a1 a2 a3 a4 a5 a6 W => tooLong_any a0 a1 a2 a3 a4 a5 a6 o A0 o.data.length c0 rfl W
  have HIS : Hid (∀ a0 a1 a2 a3 a4 a5 a6 W, Calls Try.prog 47 #[.agg #[.bool a0, .bool a1, .bool a2, .bool a3, .bool a4, .bool a5, .bool a6], opV o (.slice A0 o.data.length c0)] W fun e w' => e = .returned (.bool ((!a2 || decide (sh o.fd)) && (!a5 || decide (sh o.snap)) && (!a3 || (decide (sh o.at_) && decide (sh o.n))))) ∧ Below W.heap.size W w') := fun a0 a1 a2 a3 a4 a5 a6 W => inShorts_any a0 a1 a2 a3 a4 a5 a6 o A0 o.data.length c0 W
  obtain ⟨ek, hek⟩ : ∃ x, x = enc o := ⟨_, rfl⟩
  obtain ⟨fo, hfo⟩ : ∃ x, x = form o := ⟨_, rfl⟩
  obtain ⟨tl, htl⟩ : ∃ x, x = tail o := ⟨_, rfl⟩
  obtain ⟨as_, has⟩ : ∃ x, x = asked o := ⟨_, rfl⟩
  rw [← hek] at HE1 HE2 HE3 HE4 ⊢
  rw [← has] at HE2 HE3 HE4 HLO HSO HWR
  rw [← hfo] at HE4 HFT
  rw [← htl] at HWR HFT
  clear hek hfo htl has
  obtain ⟨kind, path, dest, fd, at_, n, till, snap, data⟩ := o
  dsimp only at hu hc hr HLO HSO HWR HFT HE1 HE2 HE3 HE4 HTL HIS ⊢
  unfold opV at HTL HIS HWR ⊢
  dsimp only at HTL HIS HWR ⊢
  obtain ⟨W0, hW0⟩ : ∃ W0, W0 = w.alloc (.cells #[.int .i64 kind, .string (strOf path), .string (strOf dest), .int .i64 fd, .int .i64 at_, .int .i64 n, .int .u64 (till : Nat), .int .i64 snap, .slice A0 data.length c0] 25) := ⟨_, rfl⟩
  obtain ⟨g, hg⟩ : ∃ g, g = w.heap.size := ⟨_, rfl⟩
  have HO0 : Hid (Blk W0 g 25 [.int .i64 kind, .string (strOf path), .string (strOf dest), .int .i64 fd, .int .i64 at_, .int .i64 n, .int .u64 (till : Nat), .int .i64 snap, .slice A0 data.length c0]) := by show Blk _ _ _ _; rw [hW0, hg]; exact Blk.new w _ _
  have HB0 : Hid (Below w.heap.size w W0) := by show Below _ _ _; rw [hW0]; exact below_new w _
  have HGL : Hid (g < W0.heap.size) := HO0.out.lt
  have HR := Lib.hid hr
  have HC := Lib.hid hc
  have HU := Lib.hid hu
  clear hr hc hu
  go_enter Try.func21, Try.ntmps21
  go_upto_region 1 with (fail)
  rw [← hW0, ← hg]
  clear hW0 hg
  have o0 := HO0.out.cell 0
  go_wp2_with fail
  refine (asked_any kind _).mono ?_
  rintro e w1 ⟨rfl, hb⟩
  have HB1 : Hid (Below w.heap.size w w1) := HB0.out.trans (hb.mono HB0.out.size)
  have HO1 : Hid (Blk w1 g 25 [.int .i64 kind, .string (strOf path), .string (strOf dest), .int .i64 fd, .int .i64 at_, .int .i64 n, .int .u64 (till : Nat), .int .i64 snap, .slice A0 data.length c0]) := HO0.out.below hb HGL.out
  clear hb o0 HB0 HO0 HGL
  by_cases hk : Kd kind
  · have HK := Lib.hid hk
    have ha : asV kind = .agg #[.bool (hasPath kind), .bool (hasTo kind), .bool (hasFd kind), .bool (hasSpan kind), .bool (hasTill kind), .bool (hasSnap kind), .bool (hasData kind)] := by unfold asV asL; rw [if_pos hk]
    have hd : decide (Kd kind) = true := decide_eq_true hk
    rw [ha, hd]
    clear ha hd hk HE1
    obtain ⟨b0, h0⟩ : ∃ b, b = hasPath kind := ⟨_, rfl⟩
    obtain ⟨b1, h1⟩ : ∃ b, b = hasTo kind := ⟨_, rfl⟩
    obtain ⟨b2, h2⟩ : ∃ b, b = hasFd kind := ⟨_, rfl⟩
    obtain ⟨b3, h3⟩ : ∃ b, b = hasSpan kind := ⟨_, rfl⟩
    obtain ⟨b4, h4⟩ : ∃ b, b = hasTill kind := ⟨_, rfl⟩
    obtain ⟨b5, h5⟩ : ∃ b, b = hasSnap kind := ⟨_, rfl⟩
    obtain ⟨b6, h6⟩ : ∃ b, b = hasData kind := ⟨_, rfl⟩
    rw [← h0, ← h1, ← h2, ← h3, ← h4, ← h5, ← h6] at HWR ⊢
    rw [← h0, ← h1, ← h6] at HLO
    rw [← h2, ← h3, ← h5] at HSO
    clear h0 h1 h2 h3 h4 h5 h6
    obtain ⟨W2, hW2⟩ : ∃ W2, W2 = w1.alloc (.cells #[.bool b0, .bool b1, .bool b2, .bool b3, .bool b4, .bool b5, .bool b6] 68) := ⟨_, rfl⟩
    obtain ⟨ga, hga⟩ : ∃ ga, ga = w1.heap.size := ⟨_, rfl⟩
    have HA2 : Hid (Blk W2 ga 68 [.bool b0, .bool b1, .bool b2, .bool b3, .bool b4, .bool b5, .bool b6]) := by show Blk _ _ _ _; rw [hW2, hga]; exact Blk.new w1 _ _
    have hb2 : Below w1.heap.size w1 W2 := by rw [hW2]; exact below_new w1 _
    have HB2 : Hid (Below w.heap.size w W2) := HB1.out.trans (hb2.mono HB1.out.size)
    have HO2 : Hid (Blk W2 g 25 [.int .i64 kind, .string (strOf path), .string (strOf dest), .int .i64 fd, .int .i64 at_, .int .i64 n, .int .u64 (till : Nat), .int .i64 snap, .slice A0 data.length c0]) := HO1.out.below hb2 HO1.out.lt
    clear hb2 HB1 HO1
    go_upto_region 2 with (fail)
    rw [← hW2, ← hga]
    clear hW2 hga
    have g0 := HA2.out.cell 0
    have g1 := HA2.out.cell 1
    have g2 := HA2.out.cell 2
    have g3 := HA2.out.cell 3
    have g4 := HA2.out.cell 4
    have g5 := HA2.out.cell 5
    have g6 := HA2.out.cell 6
    have o0 := HO2.out.cell 0
    have o1 := HO2.out.cell 1
    have o2 := HO2.out.cell 2
    have o3 := HO2.out.cell 3
    have o4 := HO2.out.cell 4
    have o5 := HO2.out.cell 5
    have o6 := HO2.out.cell 6
    have o7 := HO2.out.cell 7
    have o8 := HO2.out.cell 8
    go_wp2_with fail
    refine (HTL.out _ _ _ _ _ _ _ _).mono ?_
    rintro e w3 ⟨rfl, hb⟩
    rw [HLO.out]
    have HB3 : Hid (Below w.heap.size w w3) := HB2.out.trans (hb.mono HB2.out.size)
    have HO3 : Hid (Blk w3 g _ _) := HO2.out.below hb HO2.out.lt
    have HA3 : Hid (Blk w3 ga _ _) := HA2.out.below hb HA2.out.lt
    clear hb HB2 HO2 HA2 o0 o1 o2 o3 o4 o5 o6 o7 o8 g0 g1 g2 g3 g4 g5 g6 HTL HLO
    by_cases hL : Long as_
    · have hd : decide (Long as_) = true := decide_eq_true hL
      have HE := Lib.hid (HE2.out HK.out hL)
      rw [hd]
      clear hd hL
      go_wp2_with fail
      go_ret2
      rw [HE.out]
      exact EAns.no HB3.out
    have hd : decide (Long as_) = false := decide_eq_false hL
    have HNL := Lib.hid hL
    rw [hd]
    clear hd hL HE2
    have g0 := HA3.out.cell 0
    have g1 := HA3.out.cell 1
    have g2 := HA3.out.cell 2
    have g3 := HA3.out.cell 3
    have g4 := HA3.out.cell 4
    have g5 := HA3.out.cell 5
    have g6 := HA3.out.cell 6
    have o0 := HO3.out.cell 0
    have o1 := HO3.out.cell 1
    have o2 := HO3.out.cell 2
    have o3 := HO3.out.cell 3
    have o4 := HO3.out.cell 4
    have o5 := HO3.out.cell 5
    have o6 := HO3.out.cell 6
    have o7 := HO3.out.cell 7
    have o8 := HO3.out.cell 8
    go_wp2_with fail
    refine (HIS.out _ _ _ _ _ _ _ _).mono ?_
    rintro e w4 ⟨rfl, hb⟩
    rw [HSO.out]
    have HB4 : Hid (Below w.heap.size w w4) := HB3.out.trans (hb.mono HB3.out.size)
    have HO4 : Hid (Blk w4 g _ _) := HO3.out.below hb HO3.out.lt
    have HA4 : Hid (Blk w4 ga _ _) := HA3.out.below hb HA3.out.lt
    clear hb HB3 HO3 HA3 o0 o1 o2 o3 o4 o5 o6 o7 o8 g0 g1 g2 g3 g4 g5 g6 HIS HSO
    by_cases hH : Shorts as_
    · have hd : decide (Shorts as_) = true := decide_eq_true hH
      have HE := Lib.hid (HE4.out HK.out HNL.out hH)
      have HSH := Lib.hid hH
      rw [hd]
      clear hd hH HE3 HE4
      go_wp2_with fail
      refine (C.new w4).mono ?_
      rintro e w5 ⟨v, S, rfl, hat, hb, hS⟩
      obtain ⟨a, rfl⟩ := C.ptr hat
      have HB5 : Hid (Below w.heap.size w w5) := HB4.out.trans (hb.mono HB4.out.size)
      have HO5 : Hid (Blk w5 g _ _) := HO4.out.below hb HO4.out.lt
      have HA5 : Hid (Blk w5 ga _ _) := HA4.out.below hb HA4.out.lt
      have HAP : Hid (∀ b, S b → w4.heap.size ≤ b) := hS
      have HGL : Hid (g < w4.heap.size ∧ ga < w4.heap.size) := ⟨HO4.out.lt, HA4.out.lt⟩
      have HV5 := Lib.hid (WIn.start hat)
      have HSZ : Hid (w4.heap.size ≤ w5.heap.size) := hb.size
      have HB0s : Hid (w.heap.size ≤ w4.heap.size) := HB4.out.size
      clear hat hb hS HB4 HO4 HA4
      obtain ⟨kn, rfl⟩ : ∃ j : Nat, kind = j := ⟨kind.toNat, by have := HK.out.1; omega⟩
      have o0 := HO5.out.cell 0
      have HM := Lib.hid (HV5.out.byte (by simp) kn (by have := HK.out.2; omega))
      go_wp2_with fail
      refine HM.out.mono ?_
      rintro e w6 ⟨⟨x6, rfl⟩, HV6⟩
      have HO6 : Hid (Blk w6 g _ _) := (HV6.out.block g (Nat.lt_of_lt_of_le HGL.out.1 HSZ.out) (fun h => by have := HAP.out g h; have := HGL.out.1; omega)).trans HO5.out
      have HA6 : Hid (Blk w6 ga _ _) := (HV6.out.block ga (Nat.lt_of_lt_of_le HGL.out.2 HSZ.out) (fun h => by have := HAP.out ga h; have := HGL.out.2; omega)).trans HA5.out
      clear o0 HM HO5 HA5 HV5
      have g0 := HA6.out.cell 0
      have g1 := HA6.out.cell 1
      have g2 := HA6.out.cell 2
      have g3 := HA6.out.cell 3
      have g4 := HA6.out.cell 4
      have g5 := HA6.out.cell 5
      have g6 := HA6.out.cell 6
      have o0 := HO6.out.cell 0
      have o1 := HO6.out.cell 1
      have o2 := HO6.out.cell 2
      have o3 := HO6.out.cell 3
      have o4 := HO6.out.cell 4
      have o5 := HO6.out.cell 5
      have o6 := HO6.out.cell 6
      have o7 := HO6.out.cell 7
      have o8 := HO6.out.cell 8
      have hw6 := HV6.out
      obtain ⟨S6, k1, k2, k3⟩ := hw6
      have hrd : Rd w6 A0 data := ((HR.out.below HB5.out).mod k2 (fun h0 b hb hS => by
        obtain ⟨b', off, rfl, hlt, _⟩ := HR.out h0
        simp at hb
        have := HAP.out b hS
        have := HB5.out.size
        have := HB0s.out
        omega))
      have HM := Lib.hid (HWR.out _ _ S6 w6 HK.out HNL.out HSH.out HU.out k1 (by simp [Co.wByte]) HC.out hrd (fun h0 b hb hS => by
        obtain ⟨b', off, rfl, hlt, _⟩ := HR.out h0
        simp at hb
        have := HB5.out.size
        rcases k3 b hS with h9 | h9
        · have := HAP.out b h9
          have := HB0s.out
          omega
        · omega))
      have HF : Hid (∀ l' e w', WInR C (.pointer (some a)) l' S6 w6 e w' → WInR C (.pointer (some a)) l' S w5 e w') := fun l' e w' ⟨q1, S2, q2, q3, q4⟩ => ⟨q1, S2, q2, Ob.mod_more k2 q3 k3, fun b hb => (q4 b hb).elim (k3 b) (fun h => .inr (Nat.le_trans k2.size h))⟩
      clear k1 k2 k3 hrd HWR
      go_wp2_with fail
      refine HM.out.mono ?_
      rintro e w7 hh
      obtain ⟨⟨x7, rfl⟩, HV7⟩ := HF.out _ _ _ hh
      clear hh HM HF HO6 HA6 HV6 o0 o1 o2 o3 o4 o5 o6 o7 o8 g0 g1 g2 g3 g4 g5 g6
      have HL7 : Hid ([] ++ Co.wByte kn ++ tl = fo) := by
        show _ = _
        rw [HFT.out]
        rfl
      have hv7 := HV7.out.eq HL7.out
      obtain ⟨S7, k1, k2, k3⟩ := hv7
      have HD := Lib.hid (C.done k1)
      have HB7 : Hid (Below w.heap.size w w7) := by
        show Below _ _ _
        refine ⟨k2.os.trans HB5.out.os, k2.tape.trans HB5.out.tape, k2.output.trans HB5.out.output, Nat.le_trans HB5.out.size k2.size, fun b hb => ?_⟩
        have h1 := HB0s.out
        have h2 := HSZ.out
        rw [k2.block b (by omega) (fun h => by have := HAP.out b h; omega)]
        exact HB5.out.block b hb
      clear k1 k2 k3 HV7
      go_wp2_with fail
      refine HD.out.mono ?_
      rintro e w8 ⟨x, rfl, hown, hb, _⟩
      obtain ⟨X, c, rfl, hcc, hrd⟩ := own_form hown
      have HFIN : Hid (EAns fo 0 w (.returned (.tuple #[.slice X fo.length c, .int .i64 0])) w8) := ⟨X, c, rfl, hcc, hrd, HB7.out.trans (hb.mono HB7.out.size)⟩
      clear hown hcc hrd hb HD
      go_wp2_with fail
      go_ret2
      rw [HE.out]
      exact HFIN.out
    · have hd : decide (Shorts as_) = false := decide_eq_false hH
      have HE := Lib.hid (HE3.out HK.out HNL.out hH)
      rw [hd]
      clear hd hH
      go_wp2_with fail
      go_ret2
      rw [HE.out]
      exact EAns.no HB4.out
  · have hd : decide (Kd kind) = false := decide_eq_false hk
    have HE := Lib.hid (HE1.out hk)
    rw [hd]
    have ha : asV kind = .agg #[.bool false, .bool false, .bool false, .bool false, .bool false, .bool false, .bool false] := by unfold asV asL; rw [if_neg hk]
    rw [ha]
    clear ha hd hk
    obtain ⟨W2, hW2⟩ : ∃ W2, W2 = w1.alloc (.cells #[.bool false, .bool false, .bool false, .bool false, .bool false, .bool false, .bool false] 68) := ⟨_, rfl⟩
    have hb2 : Below w1.heap.size w1 W2 := by rw [hW2]; exact below_new w1 _
    have HB2 : Hid (Below w.heap.size w W2) := HB1.out.trans (hb2.mono HB1.out.size)
    clear hb2
    go_upto_region 2 with (fail)
    rw [← hW2]
    clear hW2
    go_wp2_with fail
    go_ret2
    rw [HE.out]
    exact EAns.no HB2.out
end Op
end Go.Proofs.Ytmcbpgbiephllaa

namespace Go.Proofs.Ytmcbpgbiephllaa
open Go.RowKit Rc

def RowS (A : Option Addr) (L l : List UInt8) (X : Option Addr) (S : Nat → Prop) (w : World) : Prop :=
  ∀ w' : World, w.heap.size ≤ w'.heap.size → (∀ b, S b → w'.heap[b]? = w.heap[b]?) → Rd w' A L → Rd w' X l
theorem RowS.keep {A : Option Addr} {L l : List UInt8} {X : Option Addr} {S : Nat → Prop} {w w' : World} (h : RowS A L l X S w) (hs : w.heap.size ≤ w'.heap.size) (hb : ∀ b, S b → w'.heap[b]? = w.heap[b]?) : RowS A L l X S w' :=
  fun w2 h2 hb2 hr => h w2 (Nat.le_trans hs h2) (fun b hS => (hb2 b hS).trans (hb b hS)) hr
theorem RowS.mono {A : Option Addr} {L l : List UInt8} {X : Option Addr} {S S' : Nat → Prop} {w : World} (h : RowS A L l X S w) (hS : ∀ b, S b → S' b) : RowS A L l X S' w :=
  fun w2 h2 hb2 hr => h w2 h2 (fun b hb => hb2 b (hS b hb)) hr
theorem RowS.now {A : Option Addr} {L l : List UInt8} {X : Option Addr} {S : Nat → Prop} {w : World} (h : RowS A L l X S w) (hr : Rd w A L) : Rd w X l := h w (Nat.le_refl _) (fun _ _ => rfl) hr
theorem RowS.of_own {w : World} {B n : Nat} {v : Value} {l : List UInt8} (A : Option Addr) (L : List UInt8) (h : w.ownsRow B 5 1 v n (Lib.byteCells l)) (hn : l.length = n) : ∃ X c, v = .slice X l.length c ∧ l.length ≤ c ∧ RowS A L l X (fun b => v.ownBlock = some b) w ∧ ∀ b, v.ownBlock = some b → B ≤ b ∧ b < w.heap.size := by
  subst hn
  obtain ⟨X, c, rfl, hc, hr⟩ := own_form h
  refine ⟨X, c, rfl, hc, fun w' hs hb _ => hr.keep (fun p hp hX => ?_) hs, fun b hb => own_lt h hb⟩
  cases X with
  | none => simp at hX
  | some a =>
    simp only [Option.map_some, Option.some.injEq] at hX
    unfold World.cell?
    rw [hb p.block (by show some a.block = _; rw [hX])]

abbrev RdAt := Value → Option Addr → List UInt8 → Co.Rs → (Nat → Prop) → World → Prop
def ROut (At : RdAt) (v : Value) (A : Option Addr) (L : List UInt8) (x : Value) (s : Co.Rs) (S : Nat → Prop) (w : World) (e : Ending) (w' : World) : Prop :=
  e = .returned x ∧ ∃ S', At v A L s S' w' ∧ Mod w w' S ∧ ∀ b, S' b → S b ∨ w.heap.size ≤ b
def RRow (At : RdAt) (v : Value) (A : Option Addr) (L : List UInt8) (r : List UInt8 × Co.Rs) (S : Nat → Prop) (w : World) (e : Ending) (w' : World) : Prop :=
  ∃ X c S' T, e = .returned (.slice X r.1.length c) ∧ r.1.length ≤ c ∧ RowS A L r.1 X T w' ∧ At v A L r.2 S' w' ∧ Mod w w' S ∧ (∀ b, S' b → S b ∨ w.heap.size ≤ b) ∧ (∀ b, T b → (S b ∨ w.heap.size ≤ b) ∧ b < w'.heap.size)
structure RFns where
  byte : Option FuncId
  short : Option FuncId
  long : Option FuncId
  flag : Option FuncId
  bytes : Option FuncId
  raw : Option FuncId
  left : Option FuncId
  fin : Option FuncId
def Apart (A : Option Addr) (L : List UInt8) (S : Nat → Prop) : Prop := 0 < L.length → ∀ b, A.map (·.block) = some b → ¬ S b
structure RSaid (f : RFns) where
  At : RdAt
  keep : ∀ {v A L s S w w'}, At v A L s S w → w.heap.size ≤ w'.heap.size → (∀ b, S b → w'.heap[b]? = w.heap[b]?) → At v A L s S w'
  lt : ∀ {v A L s S w}, At v A L s S w → ∀ b, S b → b < w.heap.size
  ptr : ∀ {v A L s S w}, At v A L s S w → ∃ a, v = .pointer (some a)
  byte : ∀ {fn}, f.byte = some fn → ∀ {v A L s S w}, At v A L s S w → Rd w A L → Apart A L S → Calls Try.prog fn #[v] w (ROut At v A L (.int .i64 ((Co.num 1 s).1 : Nat)) (Co.num 1 s).2 S w)
  short : ∀ {fn}, f.short = some fn → ∀ {v A L s S w}, At v A L s S w → Rd w A L → Apart A L S → Calls Try.prog fn #[v] w (ROut At v A L (.int .i64 ((Co.num 2 s).1 : Nat)) (Co.num 2 s).2 S w)
  long : ∀ {fn}, f.long = some fn → ∀ {v A L s S w}, At v A L s S w → Rd w A L → Apart A L S → Calls Try.prog fn #[v] w (ROut At v A L (.int .u64 ((Co.num 8 s).1 : Nat)) (Co.num 8 s).2 S w)
  flag : ∀ {fn}, f.flag = some fn → ∀ {v A L s S w}, At v A L s S w → Rd w A L → Apart A L S → Calls Try.prog fn #[v] w (ROut At v A L (.bool (Co.flag s).1) (Co.flag s).2 S w)
  bytes : ∀ {fn}, f.bytes = some fn → ∀ {v A L s S w}, At v A L s S w → Rd w A L → Apart A L S → Calls Try.prog fn #[v] w (RRow At v A L (Co.bytes s) S w)
  raw : ∀ {fn}, f.raw = some fn → ∀ {v A L s S w}, At v A L s S w → Rd w A L → Apart A L S → ∀ n : Int, -1000000 ≤ n → n ≤ 1000000 → Calls Try.prog fn #[v, .int .i64 n] w (RRow At v A L (Co.raw n s) S w)
  left : ∀ {fn}, f.left = some fn → ∀ {v A L s S w}, At v A L s S w → Rd w A L → Apart A L S → Calls Try.prog fn #[v] w fun e w' => e = .returned (.int .i64 (Co.left s : Nat)) ∧ Below w.heap.size w w'
  fin : ∀ {fn}, f.fin = some fn → ∀ {v A L s S w}, At v A L s S w → Rd w A L → Apart A L S → Calls Try.prog fn #[v] w fun e w' => e = .returned (.int .i64 (Co.fin s : Nat)) ∧ Below w.heap.size w w'

end Go.Proofs.Ytmcbpgbiephllaa

namespace Go.Proofs.Ytmcbpgbiephllaa
open Go.RowKit Rc
structure One {f : RFns} (C : RSaid f) (v : Value) (A : Option Addr) (L : List UInt8) (W0 : World) (X0 : Nat → Prop) (s : Co.Rs) (B : Nat → Prop) (w : World) : Prop where
  mod : Mod W0 w X0
  rd0 : Rd W0 A L
  ap0 : Apart A L X0
  at_ : C.At v A L s B w
  sub : ∀ b, B b → X0 b ∨ W0.heap.size ≤ b
section
variable {f : RFns} {C : RSaid f} {v : Value} {A : Option Addr} {L : List UInt8} {W0 : World} {X0 : Nat → Prop} {s : Co.Rs} {B : Nat → Prop} {w : World}
theorem One.rd (h : One C v A L W0 X0 s B w) : Rd w A L := h.rd0.mod h.mod h.ap0
theorem One.ap (h : One C v A L W0 X0 s B w) : Apart A L B := fun hl b hA hB => by
  rcases h.sub b hB with h1 | h1
  · exact h.ap0 hl b hA h1
  · obtain ⟨b', off, rfl, hlt, _⟩ := h.rd0 hl
    simp at hA
    omega
theorem One.more {w' : World} {X : Nat → Prop} (h : Mod W0 w X0) (hm : Mod w w' X) (hX : ∀ b, X b → X0 b ∨ W0.heap.size ≤ b) : Mod W0 w' X0 :=
  ⟨hm.os.trans h.os, hm.tape.trans h.tape, hm.output.trans h.output, Nat.le_trans h.size hm.size, fun k hk hn => (hm.block k (Nat.lt_of_lt_of_le hk h.size) fun hx => by
    rcases hX k hx with h1 | h1
    · exact hn h1
    · omega).trans (h.block k hk hn)⟩
theorem One.below {w' : World} (h : One C v A L W0 X0 s B w) (hb : Below w.heap.size w w') : One C v A L W0 X0 s B w' :=
  ⟨One.more h.mod (Mod.of_below hb (fun _ => False)) (fun _ h => h.elim), h.rd0, h.ap0, C.keep h.at_ hb.size (fun b hB => hb.block b (C.lt h.at_ b hB)), h.sub⟩
theorem One.step {w' : World} {s' : Co.Rs} {B' : Nat → Prop} (h : One C v A L W0 X0 s B w) (ha : C.At v A L s' B' w') (hm : Mod w w' B) (hs : ∀ b, B' b → B b ∨ w.heap.size ≤ b) : One C v A L W0 X0 s' B' w' :=
  ⟨One.more h.mod hm h.sub, h.rd0, h.ap0, ha, fun b hB => (hs b hB).elim (h.sub b) (fun h1 => .inr (Nat.le_trans h.mod.size h1))⟩
def OneAt {f : RFns} (C : RSaid f) (v : Value) (A : Option Addr) (L : List UInt8) (W0 : World) (X0 : Nat → Prop) (s : Co.Rs) (w : World) : Prop := ∃ B, One C v A L W0 X0 s B w
theorem OneAt.fin {fn : FuncId} (hf : f.fin = some fn) {n : Nat} (h : OneAt C v A L W0 X0 s w) (hr : Co.fin s = n) : Calls Try.prog fn #[v] w fun e w' => e = .returned (.int .i64 (n : Nat)) ∧ Hid (OneAt C v A L W0 X0 s w') := by
  obtain ⟨B, h⟩ := h
  exact (C.fin hf h.at_ h.rd h.ap).mono fun e w' ⟨he, hb⟩ => ⟨by rw [he, hr], B, h.below hb⟩
end
def OneP {f : RFns} (C : RSaid f) (v : Value) (A : Option Addr) (L : List UInt8) (W0 : World) (s : Co.Rs) (Q : Nat → Prop) (w : World) : Prop :=
  ∃ B, One C v A L W0 (fun _ => False) s B w ∧ ∀ b, Q b → ¬ B b ∧ b < w.heap.size
section
variable {f : RFns} {C : RSaid f} {v : Value} {A : Option Addr} {L : List UInt8} {W0 : World} {s : Co.Rs} {Q : Nat → Prop} {w : World}
theorem OneP.low (h : OneP C v A L W0 s Q w) : Below W0.heap.size W0 w := by obtain ⟨B, h, _⟩ := h; exact h.mod.below fun _ hf => hf.elim
theorem OneP.of_one (h : OneAt C v A L W0 (fun _ => False) s w) : OneP C v A L W0 s (fun b => b < W0.heap.size) w := by
  obtain ⟨B, h⟩ := h
  refine ⟨B, h, fun b hb => ⟨fun hB => ?_, Nat.lt_of_lt_of_le hb h.mod.size⟩⟩
  rcases h.sub b hB with h1 | h1
  · exact h1
  · omega
theorem OneP.below {w' : World} (h : OneP C v A L W0 s Q w) (hb : Below w.heap.size w w') : OneP C v A L W0 s Q w' := by
  obtain ⟨B, h, hQ⟩ := h
  exact ⟨B, h.below hb, fun b hb2 => ⟨(hQ b hb2).1, Nat.lt_of_lt_of_le (hQ b hb2).2 hb.size⟩⟩
theorem OneP.made {w' : World} (h : OneP C v A L W0 s Q w) (hb : Below w.heap.size w w') (g : Nat) (hg : w.heap.size ≤ g) (hg2 : g < w'.heap.size) : OneP C v A L W0 s (fun b => b = g ∨ Q b) w' := by
  obtain ⟨B, h, hQ⟩ := h
  refine ⟨B, h.below hb, fun b hb2 => ?_⟩
  rcases hb2 with rfl | hb2
  · exact ⟨fun hB => by have := C.lt h.at_ b hB; omega, hg2⟩
  · exact ⟨(hQ b hb2).1, Nat.lt_of_lt_of_le (hQ b hb2).2 hb.size⟩
theorem OneP.poke {w' : World} (h : OneP C v A L W0 s Q w) (g : Nat) (hk : Keeps w w' g) (hg : Q g) (hW : W0.heap.size ≤ g) : OneP C v A L W0 s Q w' := by
  obtain ⟨B, h, hQ⟩ := h
  refine ⟨B, ⟨⟨hk.os.trans h.mod.os, hk.tape.trans h.mod.tape, hk.output.trans h.mod.output, Nat.le_trans h.mod.size hk.size, fun k hk2 hn => (hk.block k (Nat.lt_of_lt_of_le hk2 h.mod.size) (fun e => by injection e; omega)).trans (h.mod.block k hk2 hn)⟩, h.rd0, h.ap0, C.keep h.at_ hk.size (fun b hB => hk.block b (C.lt h.at_ b hB) (fun e => by injection e with e; subst e; exact (hQ _ hg).1 hB)), h.sub⟩, fun b hb => ⟨(hQ b hb).1, Nat.lt_of_lt_of_le (hQ b hb).2 hk.size⟩⟩
def OnePOut {f : RFns} (C : RSaid f) (v : Value) (A : Option Addr) (L : List UInt8) (W0 : World) (x : Value) (s : Co.Rs) (Q : Nat → Prop) (w : World) (e : Ending) (w' : World) : Prop :=
  e = .returned x ∧ Hid (OneP C v A L W0 s Q w') ∧ Hid (∀ b, Q b → w'.heap[b]? = w.heap[b]?)
theorem OneP.of_out {B : Nat → Prop} {x : Value} {s' : Co.Rs} {e : Ending} {w' : World} (h : One C v A L W0 (fun _ => False) s B w) (hQ : ∀ b, Q b → ¬ B b ∧ b < w.heap.size) (ho : ROut C.At v A L x s' B w e w') : OnePOut C v A L W0 x s' Q w e w' := by
  obtain ⟨rfl, S', ha, hm, hs⟩ := ho
  refine ⟨rfl, ⟨S', h.step ha hm hs, fun b hb => ⟨fun hB => ?_, Nat.lt_of_lt_of_le (hQ b hb).2 hm.size⟩⟩, fun b hb => hm.block b (hQ b hb).2 (hQ b hb).1⟩
  rcases hs b hB with h1 | h1
  · exact (hQ b hb).1 h1
  · have := (hQ b hb).2
    omega
theorem OneP.byte {fn : FuncId} (hf : f.byte = some fn) {r : Nat} {s' : Co.Rs} (h : OneP C v A L W0 s Q w) (hr : Co.num 1 s = (r, s')) : Calls Try.prog fn #[v] w (OnePOut C v A L W0 (.int .i64 (r : Nat)) s' Q w) := by
  obtain ⟨B, h, hQ⟩ := h
  refine (C.byte hf h.at_ h.rd h.ap).mono fun e w' ho => ?_
  have := OneP.of_out h hQ ho
  rwa [hr] at this
theorem OneP.short {fn : FuncId} (hf : f.short = some fn) {r : Nat} {s' : Co.Rs} (h : OneP C v A L W0 s Q w) (hr : Co.num 2 s = (r, s')) : Calls Try.prog fn #[v] w (OnePOut C v A L W0 (.int .i64 (r : Nat)) s' Q w) := by
  obtain ⟨B, h, hQ⟩ := h
  refine (C.short hf h.at_ h.rd h.ap).mono fun e w' ho => ?_
  have := OneP.of_out h hQ ho
  rwa [hr] at this
theorem OneP.long {fn : FuncId} (hf : f.long = some fn) {r : Nat} {s' : Co.Rs} (h : OneP C v A L W0 s Q w) (hr : Co.num 8 s = (r, s')) : Calls Try.prog fn #[v] w (OnePOut C v A L W0 (.int .u64 (r : Nat)) s' Q w) := by
  obtain ⟨B, h, hQ⟩ := h
  refine (C.long hf h.at_ h.rd h.ap).mono fun e w' ho => ?_
  have := OneP.of_out h hQ ho
  rwa [hr] at this
theorem OneP.fin {fn : FuncId} (hf : f.fin = some fn) {n : Nat} (h : OneP C v A L W0 s Q w) (hr : Co.fin s = n) : Calls Try.prog fn #[v] w fun e w' => e = .returned (.int .i64 (n : Nat)) ∧ Hid (Below w.heap.size w w') := by
  obtain ⟨B, h, hQ⟩ := h
  exact (C.fin hf h.at_ h.rd h.ap).mono fun e w' ⟨he, hb⟩ => ⟨by rw [he, hr], hb⟩
def OnePRow {f : RFns} (C : RSaid f) (v : Value) (A : Option Addr) (L : List UInt8) (W0 : World) (l : List UInt8) (s : Co.Rs) (Q : Nat → Prop) (w : World) (e : Ending) (w' : World) : Prop :=
  ∃ X c, e = .returned (.slice X l.length c) ∧ l.length ≤ c ∧ Hid (Rd w' X l) ∧ Hid (OneP C v A L W0 s Q w') ∧ Hid (∀ b, Q b → w'.heap[b]? = w.heap[b]?)
theorem OneP.of_row {B : Nat → Prop} {l : List UInt8} {s' : Co.Rs} {r : List UInt8 × Co.Rs} {e : Ending} {w' : World} (h : One C v A L W0 (fun _ => False) s B w) (hQ : ∀ b, Q b → ¬ B b ∧ b < w.heap.size) (ho : RRow C.At v A L r B w e w') (hr : r = (l, s')) : OnePRow C v A L W0 l s' Q w e w' := by
  subst hr
  obtain ⟨X, c, S', T, rfl, hc, hrow, ha, hm, hs, ht⟩ := ho
  have h2 := h.step ha hm hs
  refine ⟨X, c, rfl, hc, hrow.now h2.rd, ⟨S', h2, fun b hb => ⟨fun hB => ?_, Nat.lt_of_lt_of_le (hQ b hb).2 hm.size⟩⟩, fun b hb => hm.block b (hQ b hb).2 (hQ b hb).1⟩
  rcases hs b hB with h1 | h1
  · exact (hQ b hb).1 h1
  · have := (hQ b hb).2
    omega
end
end Go.Proofs.Ytmcbpgbiephllaa

namespace Go.Proofs.Ytmcbpgbiephllaa
open Go.RowKit Rc
abbrev codecFns : RFns where
  byte := some 53
  short := some 62
  long := some 79
  flag := some 64
  bytes := some 63
  raw := some 82
  left := none
  fin := some 55
structure RMake (R : RSaid codecFns) : Prop where
  new : ∀ (w : World) (A : Option Addr) (L : List UInt8) (cap : Nat), Rd w A L → L.length ≤ cap → L.length ≤ 140737488351232 → Calls Try.prog 52 #[.slice A L.length cap] w fun e w' => ∃ v S, e = .returned v ∧ R.At v A L ⟨L, 0⟩ S w' ∧ Below w.heap.size w w' ∧ ∀ b, S b → w.heap.size ≤ b
theorem RMake.one {R : RSaid codecFns} (h : RMake R) (w : World) (A : Option Addr) (L : List UInt8) (cap : Nat) (hr : Rd w A L) (hc : L.length ≤ cap) (hl : L.length ≤ 140737488351232) : Calls Try.prog 52 #[.slice A L.length cap] w fun e w' => ∃ a, e = .returned (.pointer (some a)) ∧ Hid (OneAt R (.pointer (some a)) A L w (fun _ => False) ⟨L, 0⟩ w') := by
  refine (h.new w A L cap hr hc hl).mono ?_
  rintro e w' ⟨v, S, rfl, hat, hb, hS⟩
  obtain ⟨a, rfl⟩ := R.ptr hat
  exact ⟨a, rfl, S, Mod.of_below hb _, hr, fun _ _ _ hf => hf, hat, fun b h => .inr (hS b h)⟩
end Go.Proofs.Ytmcbpgbiephllaa
