/-
  OWN WORK. fault.firstFault and fault.Where over chains.
-/
import Derived.Test.YtklljdkcgkcdjaaDoorFaIsW
import Derived.OwnWalk
namespace Go.Proofs.YtklljdkcgkcdjaaDoor
open Go.RowKit Go.Stop

set_option maxHeartbeats 1000000 in
theorem first1_some (a b b1 : Nat) (old : Value) (w : World) (hg : ErrT w) (ha : w.cell? ⟨a, 0, none⟩ = some (.iface 28 (.pointer (some ⟨b1, 0, none⟩)))) (hb : w.heap[b]? = some (.cells #[old] 28 (0, 0))) :
    Calls Tryd.prog 40 #[.pointer (some ⟨a, 0, none⟩), .pointer (some ⟨b, 0, none⟩)] w fun e w' => e = .returned (.bool true) ∧ Sets w ⟨b, 0, none⟩ (.pointer (some ⟨b1, 0, none⟩)) w' := by
  have HB : Hid (w.heap[b]? = _) := hb
  have HG : Hid (ErrT w) := hg
  clear hb hg
  go_enter Tryd.func40, Tryd.ntmps40
  go_wp2_with fail
  refine (As_F_hit _ ⟨b1, 0, none⟩ ⟨b, 0, none⟩ _ HG.out (block_cell HB.out 0 _ rfl) (block_free HB.out)).mono ?_
  rintro e w' ⟨rfl, hs⟩
  have HS := Lib.hid hs
  clear hs
  go_wp2
  go_ret
  exact ⟨rfl, HS.out⟩

set_option maxHeartbeats 1000000 in
theorem first1_base (a b : Nat) (base : Base) (old : Value) (w : World) (hg : ErrT w) (ha : w.cell? ⟨a, 0, none⟩ = some base.val) (hb : w.heap[b]? = some (.cells #[old] 28 (0, 0))) :
    Calls Tryd.prog 40 #[.pointer (some ⟨a, 0, none⟩), .pointer (some ⟨b, 0, none⟩)] w fun e w' => e = .returned (.bool false) ∧ Below w.heap.size w w' := by
  have HB : Hid (w.heap[b]? = _) := hb
  have HG : Hid (ErrT w) := hg
  clear hb hg
  cases base with
  | none =>
    simp only [Base.val] at ha
    go_enter Tryd.func40, Tryd.ntmps40
    go_wp2_with fail
    refine (As_nil _ _).mono ?_
    rintro e w' ⟨rfl, rfl⟩
    go_wp2
    go_ret
    exact ⟨rfl, Below.refl _ _⟩
  | num c =>
    simp only [Base.val] at ha
    go_enter Tryd.func40, Tryd.ntmps40
    go_wp2_with fail
    refine (As_F_num _ c ⟨b, 0, none⟩ _ HG.out (block_cell HB.out 0 _ rfl)).mono ?_
    rintro e w' ⟨rfl, hs⟩
    have HS := Lib.hid hs
    clear hs
    go_wp2
    go_ret
    exact ⟨rfl, HS.out⟩
  | other b0 =>
    simp only [Base.val] at ha
    go_enter Tryd.func40, Tryd.ntmps40
    go_wp2_with fail
    refine (As_F_other _ b0 ⟨b, 0, none⟩ _ HG.out (block_cell HB.out 0 _ rfl)).mono ?_
    rintro e w' ⟨rfl, hs⟩
    have HS := Lib.hid hs
    clear hs
    go_wp2
    go_ret
    exact ⟨rfl, HS.out⟩

set_option maxHeartbeats 1000000 in
set_option maxRecDepth 100000 in
theorem first_some (q : ByteArray × ByteArray) (l : List (ByteArray × ByteArray)) (base : Base) (b1 : Nat) (w : World) (hch : Chain w (q :: l) base (.iface 28 (.pointer (some ⟨b1, 0, none⟩)))) (hs : Small (q :: l)) (hg : ErrT w) :
    Calls Tryd.prog 23 #[.iface 28 (.pointer (some ⟨b1, 0, none⟩))] w fun e w' => e = .returned (.tuple #[.pointer (some ⟨b1, 0, none⟩), .bool true]) ∧ Below w.heap.size w w' := by
  have hmf : ∀ (fn : Fn) (first cap : Array Value) (w : World), (Instr.makeFunc fn first cap).run Tryd.prog w = .ok (.func fn first cap) w := fun _ _ _ _ => rfl
  have HCH := Lib.hid hch
  have HS : Hid (Small (q :: l)) := hs
  have HG := Lib.hid hg
  clear hch hs hg
  go_enter Tryd.func23, Tryd.ntmps23
  go_wp2_with fail
  have hW0 : Below w.heap.size w ((w.alloc (.cells #[.iface 28 (.pointer (some ⟨b1, 0, none⟩))] 23)).alloc (.cells #[.pointer none] 28)) := ((Below.refl _ _).alloc (Nat.le_refl _) _).alloc (by simp) _
  refine (ends_any true (q :: l) base _ _ (HCH.out.below hW0) HS.out.1).mono ?_
  rintro e w1 ⟨rfl, hb1⟩
  have hW1 : Below w.heap.size w w1 := hW0.trans (hb1.mono (by simp; omega))
  have hsz : w.heap.size + 1 < w1.heap.size := by have := hb1.size; simp at this; omega
  have hca : (w1.alloc (.cells #[.bool false] 4)).cell? ⟨w.heap.size, 0, none⟩ = some (.iface 28 (.pointer (some ⟨b1, 0, none⟩))) := by
    rw [World.cell?_alloc_lt _ _ ⟨w.heap.size, 0, none⟩ (by simp; omega), hb1.cell (p := ⟨w.heap.size, 0, none⟩) (by simp; omega), World.cell?_alloc_lt _ _ ⟨w.heap.size, 0, none⟩ (by simp)]; simp
  have hbk : w1.heap[w.heap.size + 1]? = some (.cells #[.pointer none] 28 (0, 0)) := by
    rw [hb1.block (w.heap.size + 1) (by simp)]
    have := heap_alloc_new (w.alloc (.cells #[.iface 28 (.pointer (some ⟨b1, 0, none⟩))] 23)) (.cells #[.pointer none] 28)
    simpa using this
  have hbB : (w1.alloc (.cells #[.bool false] 4)).heap[w.heap.size + 1]? = some (.cells #[.pointer none] 28 (0, 0)) := by
    rw [Below.heap_alloc _ _ _ hsz]; exact hbk
  have hWB : Below w.heap.size w (w1.alloc (.cells #[.bool false] 4)) := hW1.alloc hW1.size _
  have hent := fun args w => enter_code Tryd.func40 (by kernel_rfl) (by rfl) args w
  have HW1 := Lib.hid hW1
  have HSZ := Lib.hid hsz
  have HBK := Lib.hid hbk
  have H := Lib.hid (first1_some w.heap.size (w.heap.size + 1) b1 _ _ (HG.out.below hWB) hca hbB)
  have HE := Lib.hid hent
  clear hW0 hb1 hW1 hca hbk hbB hsz hWB hent
  go_wp2_with fail
  refine (holds_any 40 _ _ true (Sets (w1.alloc (.cells #[.bool false] 4)) ⟨w.heap.size + 1, 0, none⟩ (.pointer (some ⟨b1, 0, none⟩))) w1 HE.out ?_).mono ?_
  · refine H.out.mono ?_
    rintro e w' ⟨rfl, hs⟩
    refine ⟨rfl, ?_, hs⟩
    obtain ⟨w2, hb2, rfl⟩ := hs
    exact setCell_heap_new hb2 (by have := HSZ.out; omega)
  · rintro e w' ⟨rfl, hp⟩
    have hc := holds_sets_cell hp (block_cell HBK.out 0 _ rfl)
    have HB := Lib.hid (holds_sets_below (B := w.heap.size) hp (by omega) HW1.out.size)
    clear hp
    go_wp2
    go_ret2
    exact ⟨rfl, HW1.out.trans HB.out⟩

set_option maxHeartbeats 1000000 in
set_option maxRecDepth 100000 in
theorem first_base (base : Base) (w : World) (hg : ErrT w) :
    Calls Tryd.prog 23 #[base.val] w fun e w' => e = .returned (.tuple #[.pointer none, .bool false]) ∧ Below w.heap.size w w' := by
  have hmf : ∀ (fn : Fn) (first cap : Array Value) (w : World), (Instr.makeFunc fn first cap).run Tryd.prog w = .ok (.func fn first cap) w := fun _ _ _ _ => rfl
  have HG := Lib.hid hg
  clear hg
  rcases base with _ | c9 | b9
  all_goals simp only [Base.val]
  · go_enter Tryd.func23, Tryd.ntmps23
    go_wp2_with fail
    have hW0 : Below w.heap.size w ((w.alloc (.cells #[.nilIface] 23)).alloc (.cells #[.pointer none] 28)) := ((Below.refl _ _).alloc (Nat.le_refl _) _).alloc (by simp) _
    refine (ends_any true [] .none _ _ rfl (by simp)).mono ?_
    rintro e w1 ⟨rfl, hb1⟩
    have hW1 : Below w.heap.size w w1 := hW0.trans (hb1.mono (by simp; omega))
    have hsz : w.heap.size + 1 < w1.heap.size := by have := hb1.size; simp at this; omega
    have hca : (w1.alloc (.cells #[.bool false] 4)).cell? ⟨w.heap.size, 0, none⟩ = some .nilIface := by
      rw [World.cell?_alloc_lt _ _ ⟨w.heap.size, 0, none⟩ (by simp; omega), hb1.cell (p := ⟨w.heap.size, 0, none⟩) (by simp; omega), World.cell?_alloc_lt _ _ ⟨w.heap.size, 0, none⟩ (by simp)]; simp
    have hbk : w1.heap[w.heap.size + 1]? = some (.cells #[.pointer none] 28 (0, 0)) := by
      rw [hb1.block (w.heap.size + 1) (by simp)]
      have := heap_alloc_new (w.alloc (.cells #[.nilIface] 23)) (.cells #[.pointer none] 28)
      simpa using this
    have hbB : (w1.alloc (.cells #[.bool false] 4)).heap[w.heap.size + 1]? = some (.cells #[.pointer none] 28 (0, 0)) := by
      rw [Below.heap_alloc _ _ _ hsz]; exact hbk
    have hWB : Below w.heap.size w (w1.alloc (.cells #[.bool false] 4)) := hW1.alloc hW1.size _
    have hent := fun args w => enter_code Tryd.func40 (by kernel_rfl) (by rfl) args w
    have HW1 := Lib.hid hW1
    have HSZ := Lib.hid hsz
    have HBK := Lib.hid hbk
    have H := Lib.hid (first1_base w.heap.size (w.heap.size + 1) .none _ _ (HG.out.below hWB) hca hbB)
    have HE := Lib.hid hent
    clear hW0 hb1 hW1 hca hbk hbB hsz hWB hent
    go_wp2_with fail
    refine (holds_any 40 _ _ false (Below (w1.alloc (.cells #[.bool false] 4)).heap.size (w1.alloc (.cells #[.bool false] 4))) w1 HE.out ?_).mono ?_
    · refine H.out.mono ?_
      rintro e w' ⟨rfl, hs⟩
      refine ⟨rfl, ?_, hs⟩
      rw [hs.block w1.heap.size (by simp)]
      exact heap_alloc_new _ _
    · rintro e w' ⟨rfl, hp⟩
      have HB := Lib.hid (holds_below (B := w.heap.size) hp HW1.out.size)
      clear hp
      go_wp2
      go_ret2
      exact ⟨rfl, HW1.out.trans HB.out⟩
  · go_enter Tryd.func23, Tryd.ntmps23
    go_wp2_with fail
    have hW0 : Below w.heap.size w ((w.alloc (.cells #[.iface 31 (.int .i64 c9)] 23)).alloc (.cells #[.pointer none] 28)) := ((Below.refl _ _).alloc (Nat.le_refl _) _).alloc (by simp) _
    refine (ends_any true [] (.num c9) _ _ rfl (by simp)).mono ?_
    rintro e w1 ⟨rfl, hb1⟩
    have hW1 : Below w.heap.size w w1 := hW0.trans (hb1.mono (by simp; omega))
    have hsz : w.heap.size + 1 < w1.heap.size := by have := hb1.size; simp at this; omega
    have hca : (w1.alloc (.cells #[.bool false] 4)).cell? ⟨w.heap.size, 0, none⟩ = some (.iface 31 (.int .i64 c9)) := by
      rw [World.cell?_alloc_lt _ _ ⟨w.heap.size, 0, none⟩ (by simp; omega), hb1.cell (p := ⟨w.heap.size, 0, none⟩) (by simp; omega), World.cell?_alloc_lt _ _ ⟨w.heap.size, 0, none⟩ (by simp)]; simp
    have hbk : w1.heap[w.heap.size + 1]? = some (.cells #[.pointer none] 28 (0, 0)) := by
      rw [hb1.block (w.heap.size + 1) (by simp)]
      have := heap_alloc_new (w.alloc (.cells #[.iface 31 (.int .i64 c9)] 23)) (.cells #[.pointer none] 28)
      simpa using this
    have hbB : (w1.alloc (.cells #[.bool false] 4)).heap[w.heap.size + 1]? = some (.cells #[.pointer none] 28 (0, 0)) := by
      rw [Below.heap_alloc _ _ _ hsz]; exact hbk
    have hWB : Below w.heap.size w (w1.alloc (.cells #[.bool false] 4)) := hW1.alloc hW1.size _
    have hent := fun args w => enter_code Tryd.func40 (by kernel_rfl) (by rfl) args w
    have HW1 := Lib.hid hW1
    have HSZ := Lib.hid hsz
    have HBK := Lib.hid hbk
    have H := Lib.hid (first1_base w.heap.size (w.heap.size + 1) (.num c9) _ _ (HG.out.below hWB) hca hbB)
    have HE := Lib.hid hent
    clear hW0 hb1 hW1 hca hbk hbB hsz hWB hent
    go_wp2_with fail
    refine (holds_any 40 _ _ false (Below (w1.alloc (.cells #[.bool false] 4)).heap.size (w1.alloc (.cells #[.bool false] 4))) w1 HE.out ?_).mono ?_
    · refine H.out.mono ?_
      rintro e w' ⟨rfl, hs⟩
      refine ⟨rfl, ?_, hs⟩
      rw [hs.block w1.heap.size (by simp)]
      exact heap_alloc_new _ _
    · rintro e w' ⟨rfl, hp⟩
      have HB := Lib.hid (holds_below (B := w.heap.size) hp HW1.out.size)
      clear hp
      go_wp2
      go_ret2
      exact ⟨rfl, HW1.out.trans HB.out⟩
  · go_enter Tryd.func23, Tryd.ntmps23
    go_wp2_with fail
    have hW0 : Below w.heap.size w ((w.alloc (.cells #[.iface 53 (.pointer (some ⟨b9, 0, none⟩))] 23)).alloc (.cells #[.pointer none] 28)) := ((Below.refl _ _).alloc (Nat.le_refl _) _).alloc (by simp) _
    refine (ends_any true [] (.other b9) _ _ rfl (by simp)).mono ?_
    rintro e w1 ⟨rfl, hb1⟩
    have hW1 : Below w.heap.size w w1 := hW0.trans (hb1.mono (by simp; omega))
    have hsz : w.heap.size + 1 < w1.heap.size := by have := hb1.size; simp at this; omega
    have hca : (w1.alloc (.cells #[.bool false] 4)).cell? ⟨w.heap.size, 0, none⟩ = some (.iface 53 (.pointer (some ⟨b9, 0, none⟩))) := by
      rw [World.cell?_alloc_lt _ _ ⟨w.heap.size, 0, none⟩ (by simp; omega), hb1.cell (p := ⟨w.heap.size, 0, none⟩) (by simp; omega), World.cell?_alloc_lt _ _ ⟨w.heap.size, 0, none⟩ (by simp)]; simp
    have hbk : w1.heap[w.heap.size + 1]? = some (.cells #[.pointer none] 28 (0, 0)) := by
      rw [hb1.block (w.heap.size + 1) (by simp)]
      have := heap_alloc_new (w.alloc (.cells #[.iface 53 (.pointer (some ⟨b9, 0, none⟩))] 23)) (.cells #[.pointer none] 28)
      simpa using this
    have hbB : (w1.alloc (.cells #[.bool false] 4)).heap[w.heap.size + 1]? = some (.cells #[.pointer none] 28 (0, 0)) := by
      rw [Below.heap_alloc _ _ _ hsz]; exact hbk
    have hWB : Below w.heap.size w (w1.alloc (.cells #[.bool false] 4)) := hW1.alloc hW1.size _
    have hent := fun args w => enter_code Tryd.func40 (by kernel_rfl) (by rfl) args w
    have HW1 := Lib.hid hW1
    have HSZ := Lib.hid hsz
    have HBK := Lib.hid hbk
    have H := Lib.hid (first1_base w.heap.size (w.heap.size + 1) (.other b9) _ _ (HG.out.below hWB) hca hbB)
    have HE := Lib.hid hent
    clear hW0 hb1 hW1 hca hbk hbB hsz hWB hent
    go_wp2_with fail
    refine (holds_any 40 _ _ false (Below (w1.alloc (.cells #[.bool false] 4)).heap.size (w1.alloc (.cells #[.bool false] 4))) w1 HE.out ?_).mono ?_
    · refine H.out.mono ?_
      rintro e w' ⟨rfl, hs⟩
      refine ⟨rfl, ?_, hs⟩
      rw [hs.block w1.heap.size (by simp)]
      exact heap_alloc_new _ _
    · rintro e w' ⟨rfl, hp⟩
      have HB := Lib.hid (holds_below (B := w.heap.size) hp HW1.out.size)
      clear hp
      go_wp2
      go_ret2
      exact ⟨rfl, HW1.out.trans HB.out⟩

set_option maxHeartbeats 1000000 in
set_option maxRecDepth 100000 in
theorem where_any : WhereSaid := by
  intro l base v w hch hs hg
  cases l with
  | nil =>
    have hv : v = base.val := hch
    subst hv
    have HG := Lib.hid hg
    clear hch hs hg
    rcases base with _ | c9 | b9
    all_goals simp only [Base.val]
    · go_enter Tryd.func9, Tryd.ntmps9
      go_wp2_with fail
      refine (first_base .none w HG.out).mono ?_
      rintro e w1 ⟨rfl, hb1⟩
      have HB1 := Lib.hid hb1
      clear hb1
      go_wp2
      go_ret3
      exact ⟨rfl, HB1.out⟩
    · go_enter Tryd.func9, Tryd.ntmps9
      go_wp2_with fail
      refine (first_base (.num c9) w HG.out).mono ?_
      rintro e w1 ⟨rfl, hb1⟩
      have HB1 := Lib.hid hb1
      clear hb1
      go_wp2
      go_ret3
      exact ⟨rfl, HB1.out⟩
    · go_enter Tryd.func9, Tryd.ntmps9
      go_wp2_with fail
      refine (first_base (.other b9) w HG.out).mono ?_
      rintro e w1 ⟨rfl, hb1⟩
      have HB1 := Lib.hid hb1
      clear hb1
      go_wp2
      go_ret3
      exact ⟨rfl, HB1.out⟩
  | cons q l =>
    have HCH := Lib.hid hch
    obtain ⟨b1, x, rfl, hbk, _⟩ := hch
    have HS : Hid (Small (q :: l)) := hs
    have HG := Lib.hid hg
    have HBK := Lib.hid hbk
    clear hs hg hbk
    go_enter Tryd.func9, Tryd.ntmps9
    go_wp2_with fail
    refine (first_some q l base b1 w HCH.out HS.out HG.out).mono ?_
    rintro e w1 ⟨rfl, hb1⟩
    have hbk1 : w1.heap[b1]? = some (.cells #[.string q.1, .string q.2, x] 30 (0, 0)) := by rw [hb1.block b1 (lt_of_block HBK.out)]; exact HBK.out
    have HB1 := Lib.hid hb1
    have HBK1 := Lib.hid hbk1
    clear hb1 hbk1
    go_wp2_with fail
    refine (place_any b1 q.1 q.2 w1 (block_cell HBK1.out 0 _ rfl) (block_cell HBK1.out 1 _ rfl)).mono ?_
    rintro e wz ⟨rfl, n, rfl⟩
    have HB2 : Hid (Below w.heap.size w (w1.drewN n)) := ⟨HB1.out.os, HB1.out.tape, HB1.out.output, HB1.out.size, HB1.out.block⟩
    go_wp2
    go_ret3
    exact ⟨rfl, HB2.out⟩
end Go.Proofs.YtklljdkcgkcdjaaDoor
