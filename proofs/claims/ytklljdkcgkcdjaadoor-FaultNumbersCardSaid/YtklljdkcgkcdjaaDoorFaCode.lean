/-
  OWN WORK. fault.Code over chains.
-/
import Derived.Test.YtklljdkcgkcdjaaDoorFaEnds
import Derived.Test.YtklljdkcgkcdjaaDoorFaAsO
namespace Go.Proofs.YtklljdkcgkcdjaaDoor
open Go.RowKit Go.Stop

theorem enter_code {f : FuncId} {fn : Func} {c : Code} (hf : Tryd.prog.funcs[f]? = some fn) (hname : (fn.name == "runtime.NumGoroutine") = false) (hb : fn.body = some c) (args : Array Value) (w : World) :
    (callFunc f args).run Tryd.prog w = .ok (.enter f args) w := by
  have h1 : fn.name ≠ "runtime.NumGoroutine" := by simpa using hname
  simp [callFunc, hf, h1, hb]

theorem setCell_heap_new {w w2 : World} {b : Nat} {v : Value} {o : Obj} (hb : Below (w.alloc o).heap.size (w.alloc o) w2) (hne : b ≠ w.heap.size) : (w2.setCell ⟨b, 0, none⟩ v).heap[w.heap.size]? = some o := by
  have e : (w2.setCell ⟨b, 0, none⟩ v).heap[w.heap.size]? = w2.heap[w.heap.size]? := Below.heap_setCell _ _ _ _ (Ne.symm hne)
  rw [e, hb.block w.heap.size (by simp)]
  exact heap_alloc_new _ _

theorem holds_sets_cell {w w' : World} {b : Nat} {v old : Value} {r : Bool} (h : HoldsPost (Sets (w.alloc (.cells #[.bool false] 4)) ⟨b, 0, none⟩ v) w r w') (ht : w.cell? ⟨b, 0, none⟩ = some old) : w'.cell? ⟨b, 0, none⟩ = some v := by
  obtain ⟨w1, hS, _, rfl⟩ := h
  have hlt := cell_lt ht
  have h1 := hS.cell (old := old) (by rw [World.cell?_alloc_lt _ _ ⟨b, 0, none⟩ hlt]; exact ht)
  have e : (w1.setCell ⟨w.heap.size, 0, none⟩ (.bool r)).heap[b]? = w1.heap[b]? := Below.heap_setCell _ _ _ _ (by simp; omega)
  have e1 : (w1.setCell ⟨w.heap.size, 0, none⟩ (.bool r)).cell? ⟨b, 0, none⟩ = w1.cell? ⟨b, 0, none⟩ := by simp only [World.cell?, e]
  rw [e1]; exact h1

theorem holds_sets_below {w w' : World} {b B : Nat} {v : Value} {r : Bool} (h : HoldsPost (Sets (w.alloc (.cells #[.bool false] 4)) ⟨b, 0, none⟩ v) w r w') (h1 : B ≤ b) (h2 : B ≤ w.heap.size) : Below B w w' := by
  obtain ⟨w1, hS, _, rfl⟩ := h
  have hb := hS.below (B := B) h1 (by simp; omega)
  exact (((Below.refl _ _).alloc h2 _).trans hb).setCell h2 _

theorem holds_below {w w' : World} {B : Nat} {r : Bool} (h : HoldsPost (Below (w.alloc (.cells #[.bool false] 4)).heap.size (w.alloc (.cells #[.bool false] 4))) w r w') (h2 : B ≤ w.heap.size) : Below B w w' := by
  obtain ⟨w1, hS, _, rfl⟩ := h
  exact (((Below.refl _ _).alloc h2 _).trans (hS.mono (by simp; omega))).setCell h2 _

theorem codeNil_any (w : World) : Calls Tryd.prog 10 #[.nilIface] w fun e w' => e = .returned (.int .i64 0) ∧ Below w.heap.size w w' := by
  go_enter Tryd.func10, Tryd.ntmps10
  go_wp2
  go_ret
  exact ⟨rfl, (Below.refl _ _).alloc (Nat.le_refl _) _⟩

set_option maxHeartbeats 1000000 in
theorem code1_num (a b : Nat) (c : Int) (l : List (ByteArray × ByteArray)) (v old : Value) (w : World) (hch : Chain w l (.num c) v) (hv : ∃ t x, v = .iface t x) (hg : ErrT w) (ha : w.cell? ⟨a, 0, none⟩ = some v) (hb : w.heap[b]? = some (.cells #[old] 31 (0, 0))) :
    Calls Tryd.prog 27 #[.pointer (some ⟨a, 0, none⟩), .pointer (some ⟨b, 0, none⟩)] w fun e w' => e = .returned (.bool true) ∧ Sets w ⟨b, 0, none⟩ (.int .i64 c) w' := by
  obtain ⟨t, x, rfl⟩ := hv
  have HCH : Hid (Chain w l (.num c) _) := hch
  have HB : Hid (w.heap[b]? = _) := hb
  have HG : Hid (ErrT w) := hg
  clear hch hb hg
  go_enter Tryd.func27, Tryd.ntmps27
  go_wp2_with fail
  refine (As_E_num _ c ⟨b, 0, none⟩ _ l _ HCH.out HG.out (block_cell HB.out 0 _ rfl) (block_free HB.out)).mono ?_
  rintro e w' ⟨rfl, hs⟩
  have HS := Lib.hid hs
  clear hs
  go_wp2
  go_ret
  exact ⟨rfl, HS.out⟩

set_option maxHeartbeats 1000000 in
theorem code1_none (a b : Nat) (l : List (ByteArray × ByteArray)) (v old : Value) (w : World) (hch : Chain w l .none v) (hn : l ≠ []) (hv : ∃ t x, v = .iface t x) (hg : ErrT w) (ha : w.cell? ⟨a, 0, none⟩ = some v) (hb : w.heap[b]? = some (.cells #[old] 31 (0, 0))) :
    Calls Tryd.prog 27 #[.pointer (some ⟨a, 0, none⟩), .pointer (some ⟨b, 0, none⟩)] w fun e w' => e = .returned (.bool false) ∧ Below w.heap.size w w' := by
  obtain ⟨t, x, rfl⟩ := hv
  have HCH : Hid (Chain w l .none _) := hch
  have HB : Hid (w.heap[b]? = _) := hb
  have HG : Hid (ErrT w) := hg
  have HN : Hid (l ≠ []) := hn
  clear hch hb hg
  go_enter Tryd.func27, Tryd.ntmps27
  go_wp2_with fail
  refine (As_E_none _ ⟨b, 0, none⟩ _ l _ HCH.out HN.out HG.out (block_cell HB.out 0 _ rfl)).mono ?_
  rintro e w' ⟨rfl, hs⟩
  have HS := Lib.hid hs
  clear hs
  go_wp2
  go_ret
  exact ⟨rfl, HS.out⟩

set_option maxHeartbeats 1000000 in
theorem code1_other (a b : Nat) (b0 : Nat) (l : List (ByteArray × ByteArray)) (v old : Value) (w : World) (hch : Chain w l (.other b0) v) (hv : ∃ t x, v = .iface t x) (hg : ErrT w) (ha : w.cell? ⟨a, 0, none⟩ = some v) (hb : w.heap[b]? = some (.cells #[old] 31 (0, 0))) :
    Calls Tryd.prog 27 #[.pointer (some ⟨a, 0, none⟩), .pointer (some ⟨b, 0, none⟩)] w fun e w' => e = .returned (.bool false) ∧ Below w.heap.size w w' := by
  obtain ⟨t, x, rfl⟩ := hv
  have HCH : Hid (Chain w l (.other b0) _) := hch
  have HB : Hid (w.heap[b]? = _) := hb
  have HG : Hid (ErrT w) := hg
  clear hch hb hg
  go_enter Tryd.func27, Tryd.ntmps27
  go_wp2_with fail
  refine (As_E_other _ b0 ⟨b, 0, none⟩ _ l _ HCH.out HG.out (block_cell HB.out 0 _ rfl)).mono ?_
  rintro e w' ⟨rfl, hs⟩
  have HS := Lib.hid hs
  clear hs
  go_wp2
  go_ret
  exact ⟨rfl, HS.out⟩

set_option maxHeartbeats 1000000 in
set_option maxRecDepth 100000 in
theorem code_any (l : List (ByteArray × ByteArray)) (base : Base) (v : Value) (w : World) (hch : Chain w l base v) (hn : v ≠ .nilIface) (hs : Small l) (hg : ErrT w) :
    Calls Tryd.prog 10 #[v] w fun e w' => e = .returned (.int .i64 base.code) ∧ Below w.heap.size w w' := by
  have hmf : ∀ (fn : Fn) (first cap : Array Value) (w : World), (Instr.makeFunc fn first cap).run Tryd.prog w = .ok (.func fn first cap) w := fun _ _ _ _ => rfl
  rcases chain_shape hch with rfl | ⟨t0, x0, rfl⟩
  · exact absurd rfl hn
  have HCH := Lib.hid hch
  have HS := Lib.hid hs
  have HG := Lib.hid hg
  clear hch hn hs hg
  go_enter Tryd.func10, Tryd.ntmps10
  go_wp2_with fail
  have hW0 : Below w.heap.size w ((w.alloc (.cells #[.iface t0 x0] 23)).alloc (.cells #[.int .i64 0] 31)) := ((Below.refl _ _).alloc (Nat.le_refl _) _).alloc (by simp) _
  refine (ends_any false l base _ _ (HCH.out.below hW0) HS.out.1).mono ?_
  rintro e w1 ⟨rfl, hb1⟩
  have hW1 : Below w.heap.size w w1 := hW0.trans (hb1.mono (by simp; omega))
  have hsz : w.heap.size + 1 < w1.heap.size := by have := hb1.size; simp at this; omega
  have hca : w1.cell? ⟨w.heap.size, 0, none⟩ = some (.iface t0 x0) := by
    rw [hb1.cell (p := ⟨w.heap.size, 0, none⟩) (by simp; omega), World.cell?_alloc_lt _ _ ⟨w.heap.size, 0, none⟩ (by simp)]; simp
  have hbk : w1.heap[w.heap.size + 1]? = some (.cells #[.int .i64 0] 31 (0, 0)) := by
    rw [hb1.block (w.heap.size + 1) (by simp)]
    have := heap_alloc_new (w.alloc (.cells #[.iface t0 x0] 23)) (.cells #[.int .i64 0] 31)
    simpa using this
  have hbB : (w1.alloc (.cells #[.bool false] 4)).heap[w.heap.size + 1]? = some (.cells #[.int .i64 0] 31 (0, 0)) := by
    rw [Below.heap_alloc _ _ _ hsz]; exact hbk
  have hWB : Below w.heap.size w (w1.alloc (.cells #[.bool false] 4)) := hW1.alloc hW1.size _
  have hcB : (w1.alloc (.cells #[.bool false] 4)).cell? ⟨w.heap.size, 0, none⟩ = some (.iface t0 x0) := by
    rw [World.cell?_alloc_lt _ _ ⟨w.heap.size, 0, none⟩ (by simp; omega)]; exact hca
  have hgB := HG.out.below hWB
  have hchB := HCH.out.below hWB
  have hent := fun args w => enter_code Tryd.func27 (by kernel_rfl) (by rfl) args w
  have HW1 := Lib.hid hW1
  have HSZ := Lib.hid hsz
  have HBK := Lib.hid hbk
  clear hW0 hb1 hW1 hca hbk hsz
  cases base with
  | num c =>
    have H := Lib.hid (code1_num w.heap.size (w.heap.size + 1) c l _ _ _ hchB ⟨_, _, rfl⟩ hgB hcB hbB)
    have HE := Lib.hid hent
    clear hchB hgB hcB hbB hWB hent
    go_wp2_with fail
    refine (holds_any 27 _ _ true (Sets (w1.alloc (.cells #[.bool false] 4)) ⟨w.heap.size + 1, 0, none⟩ (.int .i64 c)) w1 HE.out ?_).mono ?_
    · refine H.out.mono ?_
      rintro e w' ⟨rfl, hs⟩
      refine ⟨rfl, ?_, hs⟩
      obtain ⟨w2, hb2, rfl⟩ := hs
      exact setCell_heap_new hb2 (by have := HSZ.out; omega)
    · rintro e w' ⟨rfl, hp⟩
      have hc := holds_sets_cell hp (block_cell HBK.out 0 _ rfl)
      have HB := Lib.hid (holds_sets_below (B := w.heap.size) hp (by omega) HW1.out.size)
      clear hp
      go_wp2
      go_ret
      exact ⟨rfl, HW1.out.trans HB.out⟩
  | none =>
    have H := Lib.hid (code1_none w.heap.size (w.heap.size + 1) l _ _ _ hchB (by rintro rfl; exact absurd hchB (by intro h; cases h)) ⟨_, _, rfl⟩ hgB hcB hbB)
    have HE := Lib.hid hent
    clear hchB hgB hcB hbB hWB hent
    go_wp2_with fail
    refine (holds_any 27 _ _ false (Below (w1.alloc (.cells #[.bool false] 4)).heap.size (w1.alloc (.cells #[.bool false] 4))) w1 HE.out ?_).mono ?_
    · refine H.out.mono ?_
      rintro e w' ⟨rfl, hs⟩
      refine ⟨rfl, ?_, hs⟩
      rw [hs.block w1.heap.size (by simp)]
      exact heap_alloc_new _ _
    · rintro e w' ⟨rfl, hp⟩
      have HB := Lib.hid (holds_below (B := w.heap.size) hp HW1.out.size)
      clear hp
      go_wp2
      go_ret
      exact ⟨rfl, HW1.out.trans HB.out⟩
  | other b0 =>
    have H := Lib.hid (code1_other w.heap.size (w.heap.size + 1) b0 l _ _ _ hchB ⟨_, _, rfl⟩ hgB hcB hbB)
    have HE := Lib.hid hent
    clear hchB hgB hcB hbB hWB hent
    go_wp2_with fail
    refine (holds_any 27 _ _ false (Below (w1.alloc (.cells #[.bool false] 4)).heap.size (w1.alloc (.cells #[.bool false] 4))) w1 HE.out ?_).mono ?_
    · refine H.out.mono ?_
      rintro e w' ⟨rfl, hs⟩
      refine ⟨rfl, ?_, hs⟩
      rw [hs.block w1.heap.size (by simp)]
      exact heap_alloc_new _ _
    · rintro e w' ⟨rfl, hp⟩
      have HB := Lib.hid (holds_below (B := w.heap.size) hp HW1.out.size)
      clear hp
      go_wp2
      go_ret
      exact ⟨rfl, HW1.out.trans HB.out⟩
end Go.Proofs.YtklljdkcgkcdjaaDoor
