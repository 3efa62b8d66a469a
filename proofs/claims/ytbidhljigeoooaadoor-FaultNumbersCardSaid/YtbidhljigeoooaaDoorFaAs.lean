/-
  OWN WORK. errors.As over chains: the walks of Go's own text of errors.as and errors.As.
-/
import Derived.Test.YtbidhljigeoooaaDoorFaRefl
namespace Go.Proofs.YtbidhljigeoooaaDoor
open Go.RowKit Go.Extern.Stop Go.Stop Go.Extern

theorem Tryd.isFIs (v : Value) (w : World) : (Instr.typeAssert (.iface 28 v) 23 93 true).run Tryd.prog w = .ok (.tuple #[.nilIface, .bool false]) w := run_typeAssert_lacksB Tryd.underlying93 (by kernel_rfl) (by kernel_rfl) v _ w
theorem Tryd.isFUw (v : Value) (w : World) : (Instr.typeAssert (.iface 28 v) 23 95 true).run Tryd.prog w = .ok (.tuple #[.iface 28 v, .bool true]) w := run_typeAssert_hasB Tryd.underlying95 (by kernel_rfl) v _ w
theorem Tryd.isFUl (v : Value) (w : World) : (Instr.typeAssert (.iface 28 v) 23 96 true).run Tryd.prog w = .ok (.tuple #[.nilIface, .bool false]) w := run_typeAssert_lacksB Tryd.underlying96 (by kernel_rfl) (by kernel_rfl) v _ w
theorem Tryd.isFAs (v : Value) (w : World) : (Instr.typeAssert (.iface 28 v) 23 114 true).run Tryd.prog w = .ok (.tuple #[.nilIface, .bool false]) w := run_typeAssert_lacksB Tryd.underlying114 (by kernel_rfl) (by kernel_rfl) v _ w
theorem Tryd.isEIs (v : Value) (w : World) : (Instr.typeAssert (.iface 31 v) 23 93 true).run Tryd.prog w = .ok (.tuple #[.nilIface, .bool false]) w := run_typeAssert_lacksB Tryd.underlying93 (by kernel_rfl) (by kernel_rfl) v _ w
theorem Tryd.isEUw (v : Value) (w : World) : (Instr.typeAssert (.iface 31 v) 23 95 true).run Tryd.prog w = .ok (.tuple #[.nilIface, .bool false]) w := run_typeAssert_lacksB Tryd.underlying95 (by kernel_rfl) (by kernel_rfl) v _ w
theorem Tryd.isEUl (v : Value) (w : World) : (Instr.typeAssert (.iface 31 v) 23 96 true).run Tryd.prog w = .ok (.tuple #[.nilIface, .bool false]) w := run_typeAssert_lacksB Tryd.underlying96 (by kernel_rfl) (by kernel_rfl) v _ w
theorem Tryd.isEAs (v : Value) (w : World) : (Instr.typeAssert (.iface 31 v) 23 114 true).run Tryd.prog w = .ok (.tuple #[.nilIface, .bool false]) w := run_typeAssert_lacksB Tryd.underlying114 (by kernel_rfl) (by kernel_rfl) v _ w
theorem Tryd.isOIs (v : Value) (w : World) : (Instr.typeAssert (.iface 53 v) 23 93 true).run Tryd.prog w = .ok (.tuple #[.nilIface, .bool false]) w := run_typeAssert_lacksB Tryd.underlying93 (by kernel_rfl) (by kernel_rfl) v _ w
theorem Tryd.isOUw (v : Value) (w : World) : (Instr.typeAssert (.iface 53 v) 23 95 true).run Tryd.prog w = .ok (.tuple #[.nilIface, .bool false]) w := run_typeAssert_lacksB Tryd.underlying95 (by kernel_rfl) (by kernel_rfl) v _ w
theorem Tryd.isOUl (v : Value) (w : World) : (Instr.typeAssert (.iface 53 v) 23 96 true).run Tryd.prog w = .ok (.tuple #[.nilIface, .bool false]) w := run_typeAssert_lacksB Tryd.underlying96 (by kernel_rfl) (by kernel_rfl) v _ w
theorem Tryd.isOAs (v : Value) (w : World) : (Instr.typeAssert (.iface 53 v) 23 114 true).run Tryd.prog w = .ok (.tuple #[.nilIface, .bool false]) w := run_typeAssert_lacksB Tryd.underlying114 (by kernel_rfl) (by kernel_rfl) v _ w

set_option maxHeartbeats 400000 in
theorem as_F_hit (e t a : Addr) (old : Value) (w : World) (ha : w.cell? a = some (.pointer (some t))) (ht0 : w.cell? t = some old) (hf0 : w.frozen? t = false) :
    Calls Tryd.prog 38 #[.iface 28 (.pointer (some e)), .iface 49 (.pointer (some t)), .agg #[.pointer (some ⟨1, 49, none⟩), .pointer (some a), .int .u64 150], .iface 91 (.agg #[.pointer (some ⟨1, 28, none⟩)])] w
      fun ev w' => ev = .returned (.bool true) ∧ w' = ((w.alloc (.cells #[.pointer (some ⟨1, 49, none⟩), .pointer (some a), .int .u64 150] 82)).alloc (.cells #[.pointer (some e)] 28)).setCell t (.pointer (some e)) := by
  have c1 := @run_callFunc_extern Tryd.prog 27 _ ReflectliteType.typeOf Tryd.func27 (by kernel_rfl) (by kernel_rfl) (by kernel_rfl) (by kernel_rfl)
  have c2 := @run_callFunc_extern Tryd.prog 81 _ (ReflectliteType.relation "AssignableTo" ReflectliteType.assignableTo) Tryd.func81 (by kernel_rfl) (by kernel_rfl) (by kernel_rfl) (by kernel_rfl)
  have c3 := @run_callFunc_extern Tryd.prog 47 _ (ReflectliteValue.method (ReflectliteValue.valueError "reflectlite.Value.Elem" 0) ReflectliteValue.elem) Tryd.func47 (by kernel_rfl) (by kernel_rfl) (by kernel_rfl) (by kernel_rfl)
  have c4 := @run_callFunc_extern Tryd.prog 35 _ (fun args => ReflectliteValue.unpack (args.getD 0 (.tuple #[]))) Tryd.func35 (by kernel_rfl) (by kernel_rfl) (by kernel_rfl) (by kernel_rfl)
  have c5 := @run_callFunc_extern Tryd.prog 48 _ ReflectliteValue.set Tryd.func48 (by kernel_rfl) (by kernel_rfl) (by kernel_rfl) (by kernel_rfl)
  have f1 := Tryd.typeOfF
  have f2 := Tryd.asgFF
  have f3 := Tryd.valueOfSF
  have f4 := Tryd.methodAssignableTo
  have htl : t.block < w.heap.size := World.block_lt_of_cell? _ _ ht0
  have hal : a.block < w.heap.size := World.block_lt_of_cell? _ _ ha
  have el := Tryd.elemVF a t (w.alloc (.cells #[.pointer (some ⟨1, 49, none⟩), .pointer (some a), .int .u64 150] 82)) (by rw [World.cell?_alloc_lt _ _ a hal]; exact ha)
  have st := Tryd.setF t ⟨w.heap.size + 1, 0, none⟩ e old ((w.alloc (.cells #[.pointer (some ⟨1, 49, none⟩), .pointer (some a), .int .u64 150] 82)).alloc (.cells #[.pointer (some e)] 28)) (by simp)
    (by rw [World.cell?_alloc_lt _ _ t (by simp; omega), World.cell?_alloc_lt _ _ t htl]; exact ht0)
    (by rw [World.frozen?_alloc_old _ _ t (by simp; omega), World.frozen?_alloc_old _ _ t (Nat.ne_of_lt htl)]; exact hf0)
  clear ha ht0 hf0
  go_enter Tryd.func38, Tryd.ntmps38
  go_wp2
  refine wp_loop_rounds 1 ?_
  rw [rounds_succ]
  go_wp2
  go_ret
  exact ⟨rfl, rfl⟩

set_option maxHeartbeats 400000 in
theorem as_F_num (c : Int) (t a : Addr) (w : World) :
    Calls Tryd.prog 38 #[.iface 31 (.int .i64 c), .iface 49 (.pointer (some t)), .agg #[.pointer (some ⟨1, 49, none⟩), .pointer (some a), .int .u64 150], .iface 91 (.agg #[.pointer (some ⟨1, 28, none⟩)])] w
      fun ev w' => ev = .returned (.bool false) ∧ w' = w.alloc (.cells #[.pointer (some ⟨1, 49, none⟩), .pointer (some a), .int .u64 150] 82) := by
  have c1 := @run_callFunc_extern Tryd.prog 27 _ ReflectliteType.typeOf Tryd.func27 (by kernel_rfl) (by kernel_rfl) (by kernel_rfl) (by kernel_rfl)
  have c2 := @run_callFunc_extern Tryd.prog 81 _ (ReflectliteType.relation "AssignableTo" ReflectliteType.assignableTo) Tryd.func81 (by kernel_rfl) (by kernel_rfl) (by kernel_rfl) (by kernel_rfl)
  have f1 := Tryd.typeOfE
  have f2 := Tryd.asgEF
  have f4 := Tryd.methodAssignableTo
  have g1 := Tryd.isEAs
  have g2 := Tryd.isEUw
  have g3 := Tryd.isEUl
  go_enter Tryd.func38, Tryd.ntmps38
  go_wp2
  refine wp_loop_rounds 1 ?_
  rw [rounds_succ]
  go_wp2
  go_ret
  exact ⟨rfl, rfl⟩
end Go.Proofs.YtbidhljigeoooaaDoor
