/-
  OWN WORK. fault.Is over chains of a number.
-/
import Derived.Test.YtklljdkcgkcdjaaDoorFaCode
namespace Go.Proofs.YtklljdkcgkcdjaaDoor
open Go.RowKit Go.Stop

set_option maxHeartbeats 1000000 in
theorem is1_num (a b : Nat) (c n : Int) (l : List (ByteArray × ByteArray)) (v : Value) (w : World) (hch : Chain w l (.num c) v) (hv : ∃ t x, v = .iface t x) (ha : w.cell? ⟨a, 0, none⟩ = some v) (hb : w.cell? ⟨b, 0, none⟩ = some (.int .i64 n)) :
    Calls Tryd.prog 35 #[.pointer (some ⟨a, 0, none⟩), .pointer (some ⟨b, 0, none⟩)] w fun e w' => e = .returned (.bool (c == n)) ∧ Below w.heap.size w w' := by
  obtain ⟨t, x, rfl⟩ := hv
  have HCH : Hid (Chain w l (.num c) _) := hch
  clear hch
  go_enter Tryd.func35, Tryd.ntmps35
  go_wp2_with fail
  refine (Is_num c n l _ _ HCH.out).mono ?_
  rintro e w' ⟨rfl, rfl⟩
  go_wp2
  go_ret
  exact ⟨rfl, Below.refl _ _⟩

set_option maxHeartbeats 1000000 in
theorem is1_nil (a b : Nat) (n : Int) (w : World) (ha : w.cell? ⟨a, 0, none⟩ = some .nilIface) (hb : w.cell? ⟨b, 0, none⟩ = some (.int .i64 n)) :
    Calls Tryd.prog 35 #[.pointer (some ⟨a, 0, none⟩), .pointer (some ⟨b, 0, none⟩)] w fun e w' => e = .returned (.bool false) ∧ Below w.heap.size w w' := by
  go_enter Tryd.func35, Tryd.ntmps35
  go_wp2_with fail
  refine (Is_nil n _).mono ?_
  rintro e w' ⟨rfl, rfl⟩
  go_wp2
  go_ret
  exact ⟨rfl, Below.refl _ _⟩

set_option maxHeartbeats 1000000 in
set_option maxRecDepth 100000 in
theorem isw_any (l : List (ByteArray × ByteArray)) (c n : Int) (v : Value) (w : World) (hch : Chain w l (.num c) v) (hs : Small l) :
    Calls Tryd.prog 16 #[v, .int .i64 n] w fun e w' => e = .returned (.bool (c == n)) ∧ Below w.heap.size w w' := by
  have hmf : ∀ (fn : Fn) (first cap : Array Value) (w : World), (Instr.makeFunc fn first cap).run Tryd.prog w = .ok (.func fn first cap) w := fun _ _ _ _ => rfl
  rcases chain_shape hch with rfl | ⟨t0, x0, rfl⟩
  · rcases chain_top hch with h | ⟨_, h⟩ <;> cases h
  have HCH := Lib.hid hch
  have HS := Lib.hid hs
  clear hch hs
  go_enter Tryd.func16, Tryd.ntmps16
  go_wp2_with fail
  have hW0 : Below w.heap.size w ((w.alloc (.cells #[.iface t0 x0] 23)).alloc (.cells #[.int .i64 n] 31)) := ((Below.refl _ _).alloc (Nat.le_refl _) _).alloc (by simp) _
  refine (ends_any false l (.num c) _ _ (HCH.out.below hW0) HS.out.1).mono ?_
  rintro e w1 ⟨rfl, hb1⟩
  have hW1 : Below w.heap.size w w1 := hW0.trans (hb1.mono (by simp; omega))
  have hsz : w.heap.size + 1 < w1.heap.size := by have := hb1.size; simp at this; omega
  have hca : (w1.alloc (.cells #[.bool false] 4)).cell? ⟨w.heap.size, 0, none⟩ = some (.iface t0 x0) := by
    rw [World.cell?_alloc_lt _ _ ⟨w.heap.size, 0, none⟩ (by simp; omega), hb1.cell (p := ⟨w.heap.size, 0, none⟩) (by simp; omega), World.cell?_alloc_lt _ _ ⟨w.heap.size, 0, none⟩ (by simp)]; simp
  have hcb : (w1.alloc (.cells #[.bool false] 4)).cell? ⟨w.heap.size + 1, 0, none⟩ = some (.int .i64 n) := by
    rw [World.cell?_alloc_lt _ _ ⟨w.heap.size + 1, 0, none⟩ (by simp; omega), hb1.cell (p := ⟨w.heap.size + 1, 0, none⟩) (by simp)]
    simp
  have hWB : Below w.heap.size w (w1.alloc (.cells #[.bool false] 4)) := hW1.alloc hW1.size _
  have hent := fun args w => enter_code Tryd.func35 (by kernel_rfl) (by rfl) args w
  have HW1 := Lib.hid hW1
  have H := Lib.hid (is1_num w.heap.size (w.heap.size + 1) c n l _ _ (HCH.out.below hWB) ⟨_, _, rfl⟩ hca hcb)
  have HE := Lib.hid hent
  clear hW0 hb1 hW1 hca hcb hsz hWB hent
  go_wp2_with fail
  refine (holds_any 35 _ _ (c == n) (Below (w1.alloc (.cells #[.bool false] 4)).heap.size (w1.alloc (.cells #[.bool false] 4))) w1 HE.out ?_).mono ?_
  · refine H.out.mono ?_
    rintro e w' ⟨rfl, hs⟩
    refine ⟨rfl, ?_, hs⟩
    rw [hs.block w1.heap.size (by simp)]
    exact heap_alloc_new _ _
  · rintro e w' ⟨rfl, hp⟩
    have HB := Lib.hid (holds_below (B := w.heap.size) hp HW1.out.size)
    clear hp
    go_wp2
    go_ret
    exact ⟨rfl, HW1.out.trans HB.out⟩

set_option maxHeartbeats 1000000 in
set_option maxRecDepth 100000 in
theorem iswNil_any (n : Int) (w : World) :
    Calls Tryd.prog 16 #[.nilIface, .int .i64 n] w fun e w' => e = .returned (.bool false) ∧ Below w.heap.size w w' := by
  have hmf : ∀ (fn : Fn) (first cap : Array Value) (w : World), (Instr.makeFunc fn first cap).run Tryd.prog w = .ok (.func fn first cap) w := fun _ _ _ _ => rfl
  go_enter Tryd.func16, Tryd.ntmps16
  go_wp2_with fail
  have hW0 : Below w.heap.size w ((w.alloc (.cells #[.nilIface] 23)).alloc (.cells #[.int .i64 n] 31)) := ((Below.refl _ _).alloc (Nat.le_refl _) _).alloc (by simp) _
  refine (ends_any false [] .none _ _ rfl (by simp)).mono ?_
  rintro e w1 ⟨rfl, hb1⟩
  have hW1 : Below w.heap.size w w1 := hW0.trans (hb1.mono (by simp; omega))
  have hsz : w.heap.size + 1 < w1.heap.size := by have := hb1.size; simp at this; omega
  have hca : (w1.alloc (.cells #[.bool false] 4)).cell? ⟨w.heap.size, 0, none⟩ = some .nilIface := by
    rw [World.cell?_alloc_lt _ _ ⟨w.heap.size, 0, none⟩ (by simp; omega), hb1.cell (p := ⟨w.heap.size, 0, none⟩) (by simp; omega), World.cell?_alloc_lt _ _ ⟨w.heap.size, 0, none⟩ (by simp)]; simp
  have hcb : (w1.alloc (.cells #[.bool false] 4)).cell? ⟨w.heap.size + 1, 0, none⟩ = some (.int .i64 n) := by
    rw [World.cell?_alloc_lt _ _ ⟨w.heap.size + 1, 0, none⟩ (by simp; omega), hb1.cell (p := ⟨w.heap.size + 1, 0, none⟩) (by simp)]
    simp
  have hWB : Below w.heap.size w (w1.alloc (.cells #[.bool false] 4)) := hW1.alloc hW1.size _
  have hent := fun args w => enter_code Tryd.func35 (by kernel_rfl) (by rfl) args w
  have HW1 := Lib.hid hW1
  have H := Lib.hid (is1_nil w.heap.size (w.heap.size + 1) n _ hca hcb)
  have HE := Lib.hid hent
  clear hW0 hb1 hW1 hca hcb hsz hWB hent
  go_wp2_with fail
  refine (holds_any 35 _ _ false (Below (w1.alloc (.cells #[.bool false] 4)).heap.size (w1.alloc (.cells #[.bool false] 4))) w1 HE.out ?_).mono ?_
  · refine H.out.mono ?_
    rintro e w' ⟨rfl, hs⟩
    refine ⟨rfl, ?_, hs⟩
    rw [hs.block w1.heap.size (by simp)]
    exact heap_alloc_new _ _
  · rintro e w' ⟨rfl, hp⟩
    have HB := Lib.hid (holds_below (B := w.heap.size) hp HW1.out.size)
    clear hp
    go_wp2
    go_ret
    exact ⟨rfl, HW1.out.trans HB.out⟩
end Go.Proofs.YtklljdkcgkcdjaaDoor
