/-
  OWN WORK. A set of Faults, kept by a map whose keys are pointers: asked for a Fault that is not in it; a Fault put in; how many.
-/
import Derived.Test.YtbidhljigeoooaaDoorFaSaid
import Derived.LaidEql
namespace Go.Proofs.YtbidhljigeoooaaDoor
open Go.RowKit

/-- Block B is a map whose keys are the pointers to these blocks. -/
def SetAt (w : World) (B : Nat) (ks : List Nat) : Prop := ∃ es clock, w.heap[B]? = some (Obj.map es clock) ∧ es.toList.map (·.key) = ks.map fun b => Value.pointer (some ⟨b, 0, none⟩)

def IsBlock (w : World) (b : Nat) : Prop := ∃ cs, w.heap[b]? = some (.cells cs 30 (0, 0))

theorem Tryd.sizeFault : (Tryd.prog.info? 30).map (·.size) = some 3 := by kernel_rfl

theorem ptr_other {w : World} {a b : Nat} (hne : a ≠ b) (ha : IsBlock w a) (hb : IsBlock w b) :
    (Op.equal 28 (.pointer (some ⟨a, 0, none⟩)) (.pointer (some ⟨b, 0, none⟩))).run Tryd.prog w = .ok false w := by
  obtain ⟨j, hj, hsz⟩ := Option.map_eq_some_iff.1 Tryd.sizeFault
  obtain ⟨ca, ha⟩ := ha
  obtain ⟨cb, hb⟩ := hb
  have h := run_sameAddr_other (P := Tryd.prog) w (a := ⟨a, 0, none⟩) (b := ⟨b, 0, none⟩) (by simp) ha hb
  have hd : ∀ d : Nat, (Op.equalIn (d + 1) 28 (.pointer (some ⟨a, 0, none⟩)) (.pointer (some ⟨b, 0, none⟩))).run Tryd.prog w = .ok false w := fun d => by
    simp [Op.equalIn, run_underlying Tryd.underlying28, sizeOf, hj, hsz, h, typeInfo]
  simp [Op.equal, Op.maxDepth, hd 9999]

theorem ptr_nil {w : World} {b : Nat} : (Op.equal 28 (.pointer none) (.pointer (some ⟨b, 0, none⟩))).run Tryd.prog w = .ok false w := by
  have hd : ∀ d : Nat, (Op.equalIn (d + 1) 28 (.pointer none) (.pointer (some ⟨b, 0, none⟩))).run Tryd.prog w = .ok false w := fun d => by
    simp [Op.equalIn, run_underlying Tryd.underlying28]
  simp [Op.equal, Op.maxDepth, hd 9999]

theorem asking_none {w : World} {t : TypeId} {k : Value} : ∀ (es : List MapEntry) (i : Nat), (∀ e ∈ es, (Op.equal t k e.key).run Tryd.prog w = .ok false w) → (Instr.findAsking t k es i).run Tryd.prog w = .ok none w
  | [], i, _ => by simp [Instr.findAsking]
  | e :: es, i, h => by
    have h1 := h e (by simp)
    have h2 := asking_none es (i + 1) (fun e' he => h e' (by simp [he]))
    simp [Instr.findAsking, h1, h2, Result.andThen]

theorem key_none {w : World} {k : Value} (es : List MapEntry) (hk : ∀ v, Instr.sameNow (.pointer 30) k v = none) (h : ∀ e ∈ es, (Op.equal 28 k e.key).run Tryd.prog w = .ok false w) :
    (Instr.findKey 28 k es).run Tryd.prog w = .ok none w := by
  have ha := asking_none es 0 h
  cases es with
  | nil => simp [Instr.findKey, run_underlying Tryd.underlying28, Instr.findNow]
  | cons e r => simp [Instr.findKey, run_underlying Tryd.underlying28, Instr.findNow, hk, ha]
end Go.Proofs.YtbidhljigeoooaaDoor
