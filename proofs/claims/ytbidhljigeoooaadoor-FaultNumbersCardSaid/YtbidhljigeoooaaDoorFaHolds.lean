/-
  OWN WORK. fault.holds by its contract: it answers what the function that it is handed answers, where that function doesn't panic.
-/
import Derived.Test.YtbidhljigeoooaaDoorFaErrorW
import Derived.Defers
import Derived.Recover
namespace Go.Proofs.YtbidhljigeoooaaDoor
open Go.RowKit

theorem holds1_idle (p : Addr) (w : World) :
    CallsD Tryd.prog 50 #[.pointer (some p)] .returning w fun e u' w' => e = .returned (.tuple #[]) ∧ u' = .returning ∧ w' = w := by
  refine callsD_of_wpS Tryd.func50 rfl fun c₀ cs hu => ?_
  apply wpS_seq
  apply wpS_region
  simp [wpOpsS, go_sem, recoverD, hu, Tryd.ntmps50, Exit.thenS]
  refine wpS_cond (t := false) (by simp [Act.eval, Array.replicate]) ?_
  simp only [Bool.false_eq_true, if_false]
  refine wpS_of_wp (wp_skip ?_)
  cases c₀
  simp_all [bodyPostS, results, Tryd.results50]

/-- The world behind the call: what the function handed in has left, and one new cell. -/
def HoldsPost (R : World → Prop) (w : World) (r : Bool) (w' : World) : Prop := ∃ w1, R w1 ∧ w1.heap[w.heap.size]? = some (.cells #[.bool false] 4 (0, 0)) ∧ w' = w1.setCell ⟨w.heap.size, 0, none⟩ (.bool r)

set_option maxHeartbeats 1000000 in
theorem holds_any (K : FuncId) (c1 c2 : Value) (r : Bool) (R : World → Prop) (w : World) (hent : ∀ (args : Array Value) (w : World), (callFunc K args).run Tryd.prog w = .ok (.enter K args) w)
    (hcall : Calls Tryd.prog K #[c1, c2] (w.alloc (.cells #[.bool false] 4)) fun e w' => e = .returned (.bool r) ∧ w'.heap[w.heap.size]? = some (.cells #[.bool false] 4 (0, 0)) ∧ R w') :
    Calls Tryd.prog 43 #[.func (Fn.func K) #[] #[c1, c2]] w fun e w' => e = .returned (.bool r) ∧ HoldsPost R w r w' := by
  have hmf : ∀ (fn : Fn) (first cap : Array Value) (w : World), (Instr.makeFunc fn first cap).run Tryd.prog w = .ok (.func fn first cap) w := fun _ _ _ _ => rfl
  have HC := Lib.hid hcall
  clear hcall
  go_enter_defers Tryd.func43, Tryd.ntmps43
  go_wp2_with fail
  refine HC.out.mono ?_
  rintro e w1 ⟨rfl, hbk, hR⟩
  have hc := block_cell hbk 0 _ rfl
  have hf : w1.frozen? ⟨w.heap.size, 0, none⟩ = false := block_free hbk
  have HBK := Lib.hid hbk
  have HR : Hid (R w1) := hR
  clear hbk hR hent
  go_wp2_with fail
  refine leaves_cons (f := 50) (args := #[.pointer (some ⟨w.heap.size, 0, none⟩)]) (by simp) (by simp [go_sem]) ?_
  refine (holds1_idle ⟨w.heap.size, 0, none⟩ _).mono ?_
  rintro e u' w'' ⟨rfl, rfl, rfl⟩
  have hpost : HoldsPost R w r (w1.setCell ⟨w.heap.size, 0, none⟩ (.bool r)) := ⟨w1, HR.out, HBK.out, rfl⟩
  have hc2 : (w1.setCell ⟨w.heap.size, 0, none⟩ (.bool r)).cell? ⟨w.heap.size, 0, none⟩ = some (.bool r) := World.cell?_setCell_same' _ _ _ (by rw [block_cell HBK.out 0 (.bool false) rfl]; rfl)
  simp [Leaves, settle, results, Tryd.results43, go_sem, hc2, hpost]
end Go.Proofs.YtbidhljigeoooaaDoor
