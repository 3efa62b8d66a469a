/-
  OWN WORK. fault.first, fault.Code and fault.Is over chains, by fault.search.
-/
import Derived.Test.YtbidhljigeoooaaDoorFaHit
import Derived.Test.YtbidhljigeoooaaDoorFaSearchW
namespace Go.Proofs.YtbidhljigeoooaaDoor
open Go.RowKit Go.Stop

theorem told_sets {bf : Nat} {old x : Value} {t : TypeId} {W W' : World} (h0 : W.heap[bf]? = some (.cells #[old] t (0, 0))) (h : Sets W ⟨bf, 0, none⟩ x W') : Told bf (.cells #[old] t (0, 0)) (.cells #[x] t (0, 0)) true W W' := by
  obtain ⟨w1, hb, rfl⟩ := h
  have hlt := lt_of_block h0
  refine ⟨⟨hb.os, hb.tape, hb.output, by have := hb.size; simpa [World.setCell] using this, fun k hk hne => ?_⟩, ?_⟩
  · have e : (w1.setCell ⟨bf, 0, none⟩ x).heap[k]? = w1.heap[k]? := Below.heap_setCell _ _ _ _ (fun e => hne (by rw [e]))
    rw [e]; exact hb.block k hk
  · have e0 := (hb.block bf hlt).trans h0
    have hl := (Array.getElem?_eq_some_iff.1 e0).1
    have e1 := (Array.getElem?_eq_some_iff.1 e0).2
    simp [World.setCell, Array.getElem_modify, hl, e1]
theorem told_same {bf : Nat} {o : Obj} {t : Bool} {W W' : World} (h0 : W.heap[bf]? = some o) (hb : Below W.heap.size W W') : Told bf o o t W W' := by
  refine ⟨(Told.miss (o1 := o) h0 hb).1, ?_⟩
  rw [ite_self]; exact (hb.block bf (lt_of_block h0)).trans h0
theorem told_below {bf : Nat} {o0 o1 o : Obj} {t : Bool} {w w' : World} (e : bf = w.heap.size) (h : Told bf o0 o1 t (w.alloc o) w') : Below w.heap.size w w' := by
  subst e
  exact ((Below.refl _ _).alloc (Nat.le_refl _) o).grown h.1 (by simp) (fun k hk => by cases hk; omega)

set_option maxHeartbeats 1000000 in
set_option maxRecDepth 100000 in
theorem firstE_of (hf hb : Bool) (l : List (ByteArray × ByteArray)) (base : Base) (v : Value) (c : Int) (w : World) (hch : Chain w l base v) (hs : l.length ≤ 100) (hg : ErrT w) (ha : Asks 40 (.pointer (some ⟨w.heap.size, 0, none⟩)) w.heap.size (.cells #[.int .i64 0] 31 (0, 0)) (.cells #[.int .i64 c] 31 (0, 0)) hf hb v l base) :
    Calls Tryd.prog 25 #[v] w fun e w' => e = .returned (if answer hf hb l base then .tuple #[.int .i64 c, .bool true] else .tuple #[.int .i64 0, .bool false]) ∧ Below w.heap.size w w' := by
  have hmf : ∀ (fn : Fn) (first cap : Array Value) (w : World), (Instr.makeFunc fn first cap).run Tryd.prog w = .ok (.func fn first cap) w := fun _ _ _ _ => rfl
  have HCH := Lib.hid hch
  have HS : Hid (l.length ≤ 100) := hs
  have HG := Lib.hid hg
  have HA := Lib.hid ha
  clear hch hs hg ha
  go_enter Tryd.func25, Tryd.ntmps25
  go_wp2_with fail
  refine (search_any 40 _ w.heap.size _ _ hf hb l base v _ (HCH.out.below (below_new1 w _)) HS.out (HG.out.below (below_new1 w _)) (heap_alloc_new _ _) HA.out).mono ?_
  rintro e w1 ⟨rfl, hT⟩
  have HB : Hid (Below w.heap.size w w1) := told_below rfl hT
  rcases Bool.eq_false_or_eq_true (answer hf hb l base) with h | h
  · rw [h] at hT ⊢
    have hat := block_cell hT.2 0 _ rfl
    clear hT
    go_wp2
    all_goals
      go_ret2
      exact ⟨rfl, HB.out⟩
  · rw [h] at hT ⊢
    clear hT
    go_wp2
    all_goals
      go_ret2
      exact ⟨rfl, HB.out⟩

set_option maxHeartbeats 1000000 in
set_option maxRecDepth 100000 in
theorem firstP_of (hf hb : Bool) (l : List (ByteArray × ByteArray)) (base : Base) (v : Value) (b : Nat) (w : World) (hch : Chain w l base v) (hs : l.length ≤ 100) (hg : ErrT w) (ha : Asks 39 (.pointer (some ⟨w.heap.size, 0, none⟩)) w.heap.size (.cells #[.pointer none] 28 (0, 0)) (.cells #[.pointer (some ⟨b, 0, none⟩)] 28 (0, 0)) hf hb v l base) :
    Calls Tryd.prog 23 #[v] w fun e w' => e = .returned (if answer hf hb l base then .tuple #[.pointer (some ⟨b, 0, none⟩), .bool true] else .tuple #[.pointer none, .bool false]) ∧ Below w.heap.size w w' := by
  have hmf : ∀ (fn : Fn) (first cap : Array Value) (w : World), (Instr.makeFunc fn first cap).run Tryd.prog w = .ok (.func fn first cap) w := fun _ _ _ _ => rfl
  have HCH := Lib.hid hch
  have HS : Hid (l.length ≤ 100) := hs
  have HG := Lib.hid hg
  have HA := Lib.hid ha
  clear hch hs hg ha
  go_enter Tryd.func23, Tryd.ntmps23
  go_wp2_with fail
  refine (search_any 39 _ w.heap.size _ _ hf hb l base v _ (HCH.out.below (below_new1 w _)) HS.out (HG.out.below (below_new1 w _)) (heap_alloc_new _ _) HA.out).mono ?_
  rintro e w1 ⟨rfl, hT⟩
  have HB : Hid (Below w.heap.size w w1) := told_below rfl hT
  rcases Bool.eq_false_or_eq_true (answer hf hb l base) with h | h
  · rw [h] at hT ⊢
    have hat := block_cell hT.2 0 _ rfl
    clear hT
    go_wp2
    all_goals
      go_ret2
      exact ⟨rfl, HB.out⟩
  · rw [h] at hT ⊢
    clear hT
    go_wp2
    all_goals
      go_ret2
      exact ⟨rfl, HB.out⟩

theorem firstE_num (c : Int) (l : List (ByteArray × ByteArray)) (v : Value) (w : World) (hch : Chain w l (.num c) v) (hs : l.length ≤ 100) (hg : ErrT w) :
    Calls Tryd.prog 25 #[v] w fun e w' => e = .returned (.tuple #[.int .i64 c, .bool true]) ∧ Below w.heap.size w w' := by
  refine (firstE_of false true l (.num c) v c w hch hs hg ⟨fun args w => enter_code Tryd.func40 (by kernel_rfl) (by rfl) args w, fun b W hW h0 _ => (hit_EF ⟨b, 0, none⟩ ⟨_, 0, none⟩ _ W hW (block_cell h0 0 _ rfl)).mono fun _ _ ⟨he, hb⟩ => ⟨he, Told.miss h0 hb⟩, fun _ _ W hW h0 => (hit_EN c ⟨_, 0, none⟩ _ W hW (block_cell h0 0 _ rfl) (block_free h0)).mono fun _ _ ⟨he, hs⟩ => ⟨he, told_sets h0 hs⟩⟩).mono ?_
  rintro e w1 ⟨rfl, hb⟩
  exact ⟨by simp [answer], hb⟩

theorem firstE_none (l : List (ByteArray × ByteArray)) (v : Value) (w : World) (hch : Chain w l .none v) (hs : l.length ≤ 100) (hg : ErrT w) :
    Calls Tryd.prog 25 #[v] w fun e w' => e = .returned (.tuple #[.int .i64 0, .bool false]) ∧ Below w.heap.size w w' := by
  refine (firstE_of false false l .none v 0 w hch hs hg ⟨fun args w => enter_code Tryd.func40 (by kernel_rfl) (by rfl) args w, fun b W hW h0 _ => (hit_EF ⟨b, 0, none⟩ ⟨_, 0, none⟩ _ W hW (block_cell h0 0 _ rfl)).mono fun _ _ ⟨he, hb⟩ => ⟨he, Told.miss h0 hb⟩, fun h => absurd rfl h⟩).mono ?_
  rintro e w1 ⟨rfl, hb⟩
  exact ⟨by simp [answer], hb⟩

theorem firstE_other (b0 : Nat) (l : List (ByteArray × ByteArray)) (v : Value) (w : World) (hch : Chain w l (.other b0) v) (hs : l.length ≤ 100) (hg : ErrT w) :
    Calls Tryd.prog 25 #[v] w fun e w' => e = .returned (.tuple #[.int .i64 0, .bool false]) ∧ Below w.heap.size w w' := by
  refine (firstE_of false false l (.other b0) v 0 w hch hs hg ⟨fun args w => enter_code Tryd.func40 (by kernel_rfl) (by rfl) args w, fun b W hW h0 _ => (hit_EF ⟨b, 0, none⟩ ⟨_, 0, none⟩ _ W hW (block_cell h0 0 _ rfl)).mono fun _ _ ⟨he, hb⟩ => ⟨he, Told.miss h0 hb⟩, fun _ _ W hW h0 => (hit_EO b0 ⟨_, 0, none⟩ _ W hW (block_cell h0 0 _ rfl)).mono fun _ _ ⟨he, hb⟩ => ⟨he, Told.miss h0 hb⟩⟩).mono ?_
  rintro e w1 ⟨rfl, hb⟩
  exact ⟨by simp [answer], hb⟩

theorem first_some (q : ByteArray × ByteArray) (l : List (ByteArray × ByteArray)) (base : Base) (b1 : Nat) (w : World) (hch : Chain w (q :: l) base (.iface 28 (.pointer (some ⟨b1, 0, none⟩)))) (hs : Small (q :: l)) (hg : ErrT w) :
    Calls Tryd.prog 23 #[.iface 28 (.pointer (some ⟨b1, 0, none⟩))] w fun e w' => e = .returned (.tuple #[.pointer (some ⟨b1, 0, none⟩), .bool true]) ∧ Below w.heap.size w w' := by
  refine (firstP_of true false (q :: l) base _ b1 w hch hs.1 hg ⟨fun args w => enter_code Tryd.func39 (by kernel_rfl) (by rfl) args w, ?_, fun _ h => ?_⟩).mono ?_
  · intro b W hW h0 hv
    have e := hv rfl
    simp only [Value.iface.injEq, Value.pointer.injEq, Option.some.injEq, Addr.mk.injEq, true_and, and_true] at e
    subst e
    exact (hit_PF ⟨b1, 0, none⟩ ⟨_, 0, none⟩ _ W hW (block_cell h0 0 _ rfl) (block_free h0)).mono fun _ _ ⟨he, hs⟩ => ⟨he, told_sets h0 hs⟩
  · rcases h with h | h
    · cases h
    · cases h
  · rintro e w1 ⟨rfl, hb⟩
    exact ⟨by cases base <;> simp [answer], hb⟩

theorem first_base (base : Base) (w : World) (hg : ErrT w) :
    Calls Tryd.prog 23 #[base.val] w fun e w' => e = .returned (.tuple #[.pointer none, .bool false]) ∧ Below w.heap.size w w' := by
  refine (firstP_of true false [] base _ 0 w rfl (by simp) hg ⟨fun args w => enter_code Tryd.func39 (by kernel_rfl) (by rfl) args w, ?_, ?_⟩).mono ?_
  · intro b W hW h0 hv
    have e := hv rfl
    cases base <;> cases e
  · intro hn _ W hW h0
    cases base with
    | none => exact absurd rfl hn
    | num c => exact (hit_PN c ⟨_, 0, none⟩ _ W hW (block_cell h0 0 _ rfl)).mono fun _ _ ⟨he, hb⟩ => ⟨he, Told.miss h0 hb⟩
    | other b0 => exact (hit_PO b0 ⟨_, 0, none⟩ _ W hW (block_cell h0 0 _ rfl)).mono fun _ _ ⟨he, hb⟩ => ⟨he, Told.miss h0 hb⟩
  · rintro e w1 ⟨rfl, hb⟩
    exact ⟨by cases base <;> simp [answer], hb⟩

theorem codeNil_any (w : World) : Calls Tryd.prog 10 #[.nilIface] w fun e w' => e = .returned (.int .i64 0) ∧ Below w.heap.size w w' := by
  go_enter Tryd.func10, Tryd.ntmps10
  go_wp2
  go_ret
  exact ⟨rfl, Below.refl _ _⟩

set_option maxHeartbeats 1000000 in
set_option maxRecDepth 100000 in
theorem code_any (l : List (ByteArray × ByteArray)) (base : Base) (v : Value) (w : World) (hch : Chain w l base v) (hn : v ≠ .nilIface) (hs : Small l) (hg : ErrT w) :
    Calls Tryd.prog 10 #[v] w fun e w' => e = .returned (.int .i64 base.code) ∧ Below w.heap.size w w' := by
  rcases chain_shape hch with rfl | ⟨t0, x0, rfl⟩
  · exact absurd rfl hn
  have HCH := Lib.hid hch
  have HS := Lib.hid hs
  have HG := Lib.hid hg
  clear hch hn hs hg
  cases base with
  | none =>
    go_enter Tryd.func10, Tryd.ntmps10
    go_wp2_with fail
    refine (firstE_none  l _ w HCH.out HS.out.1 HG.out).mono ?_
    rintro e w1 ⟨rfl, hb⟩
    have HB := Lib.hid hb
    clear hb
    go_wp2
    go_ret
    exact ⟨rfl, HB.out⟩
  | num c9 =>
    go_enter Tryd.func10, Tryd.ntmps10
    go_wp2_with fail
    refine (firstE_num c9 l _ w HCH.out HS.out.1 HG.out).mono ?_
    rintro e w1 ⟨rfl, hb⟩
    have HB := Lib.hid hb
    clear hb
    go_wp2
    go_ret
    exact ⟨rfl, HB.out⟩
  | other b9 =>
    go_enter Tryd.func10, Tryd.ntmps10
    go_wp2_with fail
    refine (firstE_other b9 l _ w HCH.out HS.out.1 HG.out).mono ?_
    rintro e w1 ⟨rfl, hb⟩
    have HB := Lib.hid hb
    clear hb
    go_wp2
    go_ret
    exact ⟨rfl, HB.out⟩

set_option maxHeartbeats 1000000 in
set_option maxRecDepth 100000 in
theorem isw_any (l : List (ByteArray × ByteArray)) (c n : Int) (v : Value) (w : World) (hch : Chain w l (.num c) v) (hs : Small l) (hg : ErrT w) :
    Calls Tryd.prog 16 #[v, .int .i64 n] w fun e w' => e = .returned (.bool (c == n)) ∧ Below w.heap.size w w' := by
  have hmf : ∀ (fn : Fn) (first cap : Array Value) (w : World), (Instr.makeFunc fn first cap).run Tryd.prog w = .ok (.func fn first cap) w := fun _ _ _ _ => rfl
  rcases chain_shape hch with rfl | ⟨t0, x0, rfl⟩
  · cases l with
    | nil => cases hch
    | cons q l => obtain ⟨_, _, h, _⟩ := hch; cases h
  have HCH := Lib.hid hch
  have HS : Hid (l.length ≤ 100) := hs.1
  have HG := Lib.hid hg
  have HA : Hid (Asks 34 (.pointer (some ⟨w.heap.size, 0, none⟩)) w.heap.size (.cells #[.int .i64 n] 31 (0, 0)) (.cells #[.int .i64 n] 31 (0, 0)) false (c == n) (.iface t0 x0) l (.num c)) := ⟨fun args w => enter_code Tryd.func34 (by kernel_rfl) (by rfl) args w, fun b W _ h0 _ => (hit_IF ⟨b, 0, none⟩ n ⟨_, 0, none⟩ W (block_cell h0 0 _ rfl)).mono fun _ _ ⟨he, hb⟩ => ⟨he, Told.miss h0 hb⟩, fun _ _ W _ h0 => (hit_IN c n ⟨_, 0, none⟩ W (block_cell h0 0 _ rfl)).mono fun _ _ ⟨he, hb⟩ => ⟨he, told_same h0 hb⟩⟩
  have HANS : Hid (answer false (c == n) l (.num c) = (c == n)) := by show _ = _; simp [answer]
  clear hg hch hs
  go_enter Tryd.func16, Tryd.ntmps16
  go_wp2_with fail
  refine (search_any 34 _ w.heap.size _ _ false (c == n) l (.num c) _ _ (HCH.out.below (below_new1 w _)) HS.out (HG.out.below (below_new1 w _)) (heap_alloc_new _ _) HA.out).mono ?_
  rintro e w1 ⟨rfl, hT⟩
  have HB : Hid (Below w.heap.size w w1) := told_below rfl hT
  clear hT
  go_wp2
  go_ret
  exact ⟨by rw [HANS.out] <;> rfl, HB.out⟩

set_option maxHeartbeats 1000000 in
set_option maxRecDepth 100000 in
theorem iswNil_any (n : Int) (w : World) (hg : ErrT w) :
    Calls Tryd.prog 16 #[.nilIface, .int .i64 n] w fun e w' => e = .returned (.bool false) ∧ Below w.heap.size w w' := by
  have hmf : ∀ (fn : Fn) (first cap : Array Value) (w : World), (Instr.makeFunc fn first cap).run Tryd.prog w = .ok (.func fn first cap) w := fun _ _ _ _ => rfl
  have HG := Lib.hid hg
  have HA : Hid (Asks 34 (.pointer (some ⟨w.heap.size, 0, none⟩)) w.heap.size (.cells #[.int .i64 n] 31 (0, 0)) (.cells #[.int .i64 n] 31 (0, 0)) false false .nilIface [] .none) := ⟨fun args w => enter_code Tryd.func34 (by kernel_rfl) (by rfl) args w, fun b W _ h0 _ => (hit_IF ⟨b, 0, none⟩ n ⟨_, 0, none⟩ W (block_cell h0 0 _ rfl)).mono fun _ _ ⟨he, hb⟩ => ⟨he, Told.miss h0 hb⟩, fun h => absurd rfl h⟩
  have HANS : Hid (answer false false [] .none = false) := by show _ = _; simp [answer]
  clear hg
  go_enter Tryd.func16, Tryd.ntmps16
  go_wp2_with fail
  refine (search_any 34 _ w.heap.size _ _ false false [] .none _ _ ((rfl : Chain _ [] .none .nilIface)) (by simp) (HG.out.below (below_new1 w _)) (heap_alloc_new _ _) HA.out).mono ?_
  rintro e w1 ⟨rfl, hT⟩
  have HB : Hid (Below w.heap.size w w1) := told_below rfl hT
  clear hT
  go_wp2
  go_ret
  exact ⟨by rw [HANS.out] <;> rfl, HB.out⟩
end Go.Proofs.YtbidhljigeoooaaDoor
