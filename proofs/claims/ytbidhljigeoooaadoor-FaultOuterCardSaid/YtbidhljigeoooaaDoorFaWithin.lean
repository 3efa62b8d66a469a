/-
  OWN WORK. fault.within by its contract: what a Fault wraps; a base wraps nothing.
-/
import Derived.Test.YtbidhljigeoooaaDoorFaHolds
namespace Go.Proofs.YtbidhljigeoooaaDoor
open Go.RowKit Go.Stop

theorem Tryd.isNUw (w : World) : (Instr.typeAssert .nilIface 23 95 true).run Tryd.prog w = .ok (.tuple #[.nilIface, .bool false]) w := by kernel_rfl
theorem Tryd.isNUl (w : World) : (Instr.typeAssert .nilIface 23 96 true).run Tryd.prog w = .ok (.tuple #[.nilIface, .bool false]) w := by kernel_rfl

theorem within1_idle (p q : Addr) (w : World) :
    CallsD Tryd.prog 51 #[.pointer (some p), .pointer (some q)] .returning w fun e u' w' => e = .returned (.tuple #[]) ∧ u' = .returning ∧ w' = w := by
  refine callsD_of_wpS Tryd.func51 rfl fun c₀ cs hu => ?_
  apply wpS_seq
  apply wpS_region
  simp [wpOpsS, go_sem, recoverD, hu, Tryd.ntmps51, Exit.thenS]
  refine wpS_cond (t := false) (by simp [Act.eval, Array.replicate]) ?_
  simp only [Bool.false_eq_true, if_false]
  refine wpS_of_wp (wp_skip ?_)
  cases c₀
  simp_all [bodyPostS, results, Tryd.results51]

set_option maxHeartbeats 1000000 in
set_option maxRecDepth 100000 in
theorem within_fault (b : Nat) (x : Value) (w : World) (hx : w.cell? ⟨b, 2, none⟩ = some x) (hcell : x = .nilIface ∨ ∃ t v, x = .iface t v) :
    Calls Tryd.prog 45 #[.iface 28 (.pointer (some ⟨b, 0, none⟩))] w fun e w' => e = .returned (.tuple #[x, .slice none 0 0]) ∧ Below w.heap.size w w' := by
  have hmf : ∀ (fn : Fn) (first cap : Array Value) (w : World), (Instr.makeFunc fn first cap).run Tryd.prog w = .ok (.func fn first cap) w := fun _ _ _ _ => rfl
  have g2 := Tryd.isFUw
  have m := Tryd.methodUnwrap
  have hlt := cell_lt hx
  have hx2 : ((w.alloc (.cells #[.nilIface] 23)).alloc (.cells #[.slice none 0 0] 97)).cell? ⟨b, 2, none⟩ = some x := by
    rw [World.cell?_alloc_lt _ _ ⟨b, 2, none⟩ (by simp; omega), World.cell?_alloc_lt _ _ ⟨b, 2, none⟩ hlt]; exact hx
  have HX := Lib.hid hx2
  clear hx hx2
  rcases hcell with rfl | ⟨t, v, rfl⟩
  all_goals
    go_enter_defers Tryd.func45, Tryd.ntmps45
    go_wp2_with fail
    refine (unwrap_any b _ _ HX.out).mono ?_
    rintro e w' ⟨rfl, rfl⟩
    go_wp2_with fail
    refine leaves_cons (f := 51) (args := #[.pointer (some ⟨w.heap.size, 0, none⟩), .pointer (some ⟨w.heap.size + 1, 0, none⟩)]) (by simp) (by simp [go_sem]) ?_
    refine (within1_idle ⟨w.heap.size, 0, none⟩ ⟨w.heap.size + 1, 0, none⟩ _).mono ?_
    rintro e u' w'' ⟨rfl, rfl, rfl⟩
    simp [Leaves, settle, results, Tryd.results45, go_sem]
    exact ((Below.refl _ _).alloc (Nat.le_refl _) _).alloc (by simp) _

set_option maxHeartbeats 1000000 in
set_option maxRecDepth 100000 in
theorem within_base (base : Base) (w : World) :
    Calls Tryd.prog 45 #[base.val] w fun e w' => e = .returned (.tuple #[.nilIface, .slice none 0 0]) ∧ Below w.heap.size w w' := by
  have hmf : ∀ (fn : Fn) (first cap : Array Value) (w : World), (Instr.makeFunc fn first cap).run Tryd.prog w = .ok (.func fn first cap) w := fun _ _ _ _ => rfl
  have g1 := Tryd.isEUw
  have g2 := Tryd.isEUl
  have g3 := Tryd.isOUw
  have g4 := Tryd.isOUl
  have g5 := Tryd.isNUw
  have g6 := Tryd.isNUl
  cases base
  all_goals
    simp only [Base.val]
    go_enter_defers Tryd.func45, Tryd.ntmps45
    go_wp2_with fail
    refine leaves_cons (f := 51) (args := #[.pointer (some ⟨w.heap.size, 0, none⟩), .pointer (some ⟨w.heap.size + 1, 0, none⟩)]) (by simp) (by simp [go_sem]) ?_
    refine (within1_idle ⟨w.heap.size, 0, none⟩ ⟨w.heap.size + 1, 0, none⟩ _).mono ?_
    rintro e u' w'' ⟨rfl, rfl, rfl⟩
    simp [Leaves, settle, results, Tryd.results45, go_sem]
    exact ((Below.refl _ _).alloc (Nat.le_refl _) _).alloc (by simp) _
end Go.Proofs.YtbidhljigeoooaaDoor
