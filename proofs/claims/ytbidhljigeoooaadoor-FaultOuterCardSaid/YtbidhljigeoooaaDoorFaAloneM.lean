/-
  OWN WORK. errors.As and errors.Is asked of an error alone.
-/
import Derived.Test.YtbidhljigeoooaaDoorFaAsT
import Derived.Test.YtbidhljigeoooaaDoorFaIs
import Derived.Lib.Hide
namespace Go.Proofs.YtbidhljigeoooaaDoor
open Go.RowKit Go.Extern.Stop Go.Stop Go.Extern

theorem Tryd.methodAsE (h : Value) (w : World) : (Go.method 247 77 (.agg #[h]) "As").run Tryd.prog w = .ok (71, .agg #[h]) w := by kernel_rfl
theorem Tryd.isAEAs (v : Value) (w : World) : (Instr.typeAssert (.iface 77 v) 23 114 true).run Tryd.prog w = .ok (.tuple #[.iface 77 v, .bool true]) w := run_typeAssert_hasB Tryd.underlying114 (by kernel_rfl) v _ w
theorem Tryd.isAEUw (v : Value) (w : World) : (Instr.typeAssert (.iface 77 v) 23 95 true).run Tryd.prog w = .ok (.tuple #[.nilIface, .bool false]) w := run_typeAssert_lacksB Tryd.underlying95 (by kernel_rfl) (by kernel_rfl) v _ w
theorem Tryd.isAEUl (v : Value) (w : World) : (Instr.typeAssert (.iface 77 v) 23 96 true).run Tryd.prog w = .ok (.tuple #[.nilIface, .bool false]) w := run_typeAssert_lacksB Tryd.underlying96 (by kernel_rfl) (by kernel_rfl) v _ w
theorem Tryd.typeOfAE (v : Value) (w : World) : (ReflectliteType.typeOf #[.iface 77 v]).run Tryd.prog w = .ok (.iface 91 (.agg #[.pointer (some ⟨1, 77, none⟩)])) w := by kernel_rfl
theorem Tryd.asgAE (w : World) : (ReflectliteType.relation "AssignableTo" ReflectliteType.assignableTo #[.agg #[.pointer (some ⟨1, 77, none⟩)], .iface 91 (.agg #[.pointer (some ⟨1, 31, none⟩)])]).run Tryd.prog w = .ok (.bool false) w := by kernel_rfl
theorem Tryd.methodAsP (h : Value) (w : World) : (Go.method 247 89 (.agg #[h]) "As").run Tryd.prog w = .ok (77, .agg #[h]) w := by kernel_rfl
theorem Tryd.isAPAs (v : Value) (w : World) : (Instr.typeAssert (.iface 89 v) 23 114 true).run Tryd.prog w = .ok (.tuple #[.iface 89 v, .bool true]) w := run_typeAssert_hasB Tryd.underlying114 (by kernel_rfl) v _ w
theorem Tryd.isAPUw (v : Value) (w : World) : (Instr.typeAssert (.iface 89 v) 23 95 true).run Tryd.prog w = .ok (.tuple #[.nilIface, .bool false]) w := run_typeAssert_lacksB Tryd.underlying95 (by kernel_rfl) (by kernel_rfl) v _ w
theorem Tryd.isAPUl (v : Value) (w : World) : (Instr.typeAssert (.iface 89 v) 23 96 true).run Tryd.prog w = .ok (.tuple #[.nilIface, .bool false]) w := run_typeAssert_lacksB Tryd.underlying96 (by kernel_rfl) (by kernel_rfl) v _ w
theorem Tryd.typeOfAP (v : Value) (w : World) : (ReflectliteType.typeOf #[.iface 89 v]).run Tryd.prog w = .ok (.iface 91 (.agg #[.pointer (some ⟨1, 89, none⟩)])) w := by kernel_rfl
theorem Tryd.asgAP (w : World) : (ReflectliteType.relation "AssignableTo" ReflectliteType.assignableTo #[.agg #[.pointer (some ⟨1, 89, none⟩)], .iface 91 (.agg #[.pointer (some ⟨1, 28, none⟩)])]).run Tryd.prog w = .ok (.bool false) w := by kernel_rfl
theorem Tryd.methodIsE (h : Value) (w : World) : (Go.method 247 77 (.agg #[h]) "Is").run Tryd.prog w = .ok (73, .agg #[h]) w := by kernel_rfl
theorem Tryd.isAEIs (v : Value) (w : World) : (Instr.typeAssert (.iface 77 v) 23 93 true).run Tryd.prog w = .ok (.tuple #[.iface 77 v, .bool true]) w := run_typeAssert_hasB Tryd.underlying93 (by kernel_rfl) v _ w
theorem Tryd.eqlAE (v u : Value) (w : World) : (binOp .eql 23 (.iface 77 v) (.iface 31 u)).run Tryd.prog w = .ok (.bool false) w := run_eql_iface_types _ _ v u Tryd.underlying23 (by decide) w
theorem Tryd.eqlOE (v u : Value) (w : World) : (binOp .eql 23 (.iface 53 v) (.iface 31 u)).run Tryd.prog w = .ok (.bool false) w := run_eql_iface_types _ _ v u Tryd.underlying23 (by decide) w

theorem Tryd.asPtE (p : Option Addr) (w : World) : (Instr.typeAssert (.iface 50 (.pointer p)) 20 50 true).run Tryd.prog w = .ok (.tuple #[.pointer p, .bool true]) w := by kernel_rfl
theorem Tryd.asElEF (e : Addr) (w : World) : (Instr.typeAssert (.iface 28 (.pointer (some e))) 23 31 true).run Tryd.prog w = .ok (.tuple #[.int .i64 0, .bool false]) w := by kernel_rfl
theorem Tryd.asElEN (c : Int) (w : World) : (Instr.typeAssert (.iface 31 (.int .i64 c)) 23 31 true).run Tryd.prog w = .ok (.tuple #[.int .i64 c, .bool true]) w := by kernel_rfl
theorem Tryd.asElEO (b0 : Nat) (w : World) : (Instr.typeAssert (.iface 53 (.pointer (some ⟨b0, 0, none⟩))) 23 31 true).run Tryd.prog w = .ok (.tuple #[.int .i64 0, .bool false]) w := by kernel_rfl
theorem Tryd.asPtP (p : Option Addr) (w : World) : (Instr.typeAssert (.iface 49 (.pointer p)) 20 49 true).run Tryd.prog w = .ok (.tuple #[.pointer p, .bool true]) w := by kernel_rfl
theorem Tryd.asElPF (e : Addr) (w : World) : (Instr.typeAssert (.iface 28 (.pointer (some e))) 23 28 true).run Tryd.prog w = .ok (.tuple #[.pointer (some e), .bool true]) w := by kernel_rfl
theorem Tryd.asElPN (c : Int) (w : World) : (Instr.typeAssert (.iface 31 (.int .i64 c)) 23 28 true).run Tryd.prog w = .ok (.tuple #[.pointer none, .bool false]) w := by kernel_rfl
theorem Tryd.asElPO (b0 : Nat) (w : World) : (Instr.typeAssert (.iface 53 (.pointer (some ⟨b0, 0, none⟩))) 23 28 true).run Tryd.prog w = .ok (.tuple #[.pointer none, .bool false]) w := by kernel_rfl

theorem below_new1 (w : World) (o : Obj) : Below w.heap.size w (w.alloc o) := (Below.refl _ _).alloc (Nat.le_refl _) o

set_option maxHeartbeats 1000000 in
set_option maxRecDepth 100000 in
theorem aloneAs_EF (e : Addr) (t : Addr) (w : World) :
    Calls Tryd.prog 71 #[.agg #[.iface 28 (.pointer (some e))], .iface 50 (.pointer (some t))] w fun ev w' => ev = .returned (.bool false) ∧ Below w.heap.size w w' := by
  have g1 := Tryd.isFAs
  have a1 := Tryd.asPtE
  have a2 := Tryd.asElEF
  go_enter Tryd.func71, Tryd.ntmps71
  go_wp2
  go_ret
  exact ⟨rfl, (Below.refl _ _).alloc (Nat.le_refl _) _⟩

set_option maxHeartbeats 1000000 in
set_option maxRecDepth 100000 in
theorem aloneAs_EN (c : Int) (t : Addr) (old : Value) (w : World) (ht0 : w.cell? t = some old) (hf0 : w.frozen? t = false) :
    Calls Tryd.prog 71 #[.agg #[.iface 31 (.int .i64 c)], .iface 50 (.pointer (some t))] w fun ev w' => ev = .returned (.bool true) ∧ Sets w t (.int .i64 c) w' := by
  have g1 := Tryd.isEAs
  have a1 := Tryd.asPtE
  have a2 := Tryd.asElEN
  have htl : t.block < w.heap.size := World.block_lt_of_cell? _ _ ht0
  have h1 : (w.alloc (.cells #[.iface 31 (.int .i64 c)] 77)).cell? t = some old := by rw [World.cell?_alloc_lt _ _ t htl]; exact ht0
  have h2 : (w.alloc (.cells #[.iface 31 (.int .i64 c)] 77)).frozen? t = false := by rw [World.frozen?_alloc_old _ _ t (Nat.ne_of_lt htl)]; exact hf0
  clear ht0 hf0
  go_enter Tryd.func71, Tryd.ntmps71
  go_wp2
  go_ret
  exact ⟨rfl, _, (Below.refl _ _).alloc (Nat.le_refl _) _, rfl⟩

set_option maxHeartbeats 1000000 in
set_option maxRecDepth 100000 in
theorem aloneAs_EO (b0 : Nat) (t : Addr) (w : World) :
    Calls Tryd.prog 71 #[.agg #[.iface 53 (.pointer (some ⟨b0, 0, none⟩))], .iface 50 (.pointer (some t))] w fun ev w' => ev = .returned (.bool false) ∧ Below w.heap.size w w' := by
  have g1 := Tryd.isOAs
  have a1 := Tryd.asPtE
  have a2 := Tryd.asElEO
  go_enter Tryd.func71, Tryd.ntmps71
  go_wp2
  go_ret
  exact ⟨rfl, (Below.refl _ _).alloc (Nat.le_refl _) _⟩

set_option maxHeartbeats 1000000 in
set_option maxRecDepth 100000 in
theorem aloneAs_PF (e : Addr) (t : Addr) (old : Value) (w : World) (ht0 : w.cell? t = some old) (hf0 : w.frozen? t = false) :
    Calls Tryd.prog 77 #[.agg #[.iface 28 (.pointer (some e))], .iface 49 (.pointer (some t))] w fun ev w' => ev = .returned (.bool true) ∧ Sets w t (.pointer (some e)) w' := by
  have g1 := Tryd.isFAs
  have a1 := Tryd.asPtP
  have a2 := Tryd.asElPF
  have htl : t.block < w.heap.size := World.block_lt_of_cell? _ _ ht0
  have h1 : (w.alloc (.cells #[.iface 28 (.pointer (some e))] 89)).cell? t = some old := by rw [World.cell?_alloc_lt _ _ t htl]; exact ht0
  have h2 : (w.alloc (.cells #[.iface 28 (.pointer (some e))] 89)).frozen? t = false := by rw [World.frozen?_alloc_old _ _ t (Nat.ne_of_lt htl)]; exact hf0
  clear ht0 hf0
  go_enter Tryd.func77, Tryd.ntmps77
  go_wp2
  go_ret
  exact ⟨rfl, _, (Below.refl _ _).alloc (Nat.le_refl _) _, rfl⟩

set_option maxHeartbeats 1000000 in
set_option maxRecDepth 100000 in
theorem aloneAs_PN (c : Int) (t : Addr) (w : World) :
    Calls Tryd.prog 77 #[.agg #[.iface 31 (.int .i64 c)], .iface 49 (.pointer (some t))] w fun ev w' => ev = .returned (.bool false) ∧ Below w.heap.size w w' := by
  have g1 := Tryd.isEAs
  have a1 := Tryd.asPtP
  have a2 := Tryd.asElPN
  go_enter Tryd.func77, Tryd.ntmps77
  go_wp2
  go_ret
  exact ⟨rfl, (Below.refl _ _).alloc (Nat.le_refl _) _⟩

set_option maxHeartbeats 1000000 in
set_option maxRecDepth 100000 in
theorem aloneAs_PO (b0 : Nat) (t : Addr) (w : World) :
    Calls Tryd.prog 77 #[.agg #[.iface 53 (.pointer (some ⟨b0, 0, none⟩))], .iface 49 (.pointer (some t))] w fun ev w' => ev = .returned (.bool false) ∧ Below w.heap.size w w' := by
  have g1 := Tryd.isOAs
  have a1 := Tryd.asPtP
  have a2 := Tryd.asElPO
  go_enter Tryd.func77, Tryd.ntmps77
  go_wp2
  go_ret
  exact ⟨rfl, (Below.refl _ _).alloc (Nat.le_refl _) _⟩

set_option maxHeartbeats 1000000 in
set_option maxRecDepth 100000 in
theorem aloneIs_F (e : Addr) (a : Int) (w : World) : Calls Tryd.prog 73 #[.agg #[.iface 28 (.pointer (some e))], .iface 31 (.int .i64 a)] w fun ev w' => ev = .returned (.bool false) ∧ Below w.heap.size w w' := by
  have g1 := Tryd.isFIs
  have q1 := Tryd.eqlFE
  go_enter Tryd.func73, Tryd.ntmps73
  go_wp2
  go_ret
  exact ⟨rfl, (Below.refl _ _).alloc (Nat.le_refl _) _⟩

set_option maxHeartbeats 1000000 in
set_option maxRecDepth 100000 in
theorem aloneIs_N (c : Int) (a : Int) (w : World) : Calls Tryd.prog 73 #[.agg #[.iface 31 (.int .i64 c)], .iface 31 (.int .i64 a)] w fun ev w' => ev = .returned (.bool (c == a)) ∧ Below w.heap.size w w' := by
  have g1 := Tryd.isEIs
  have q1 := Tryd.eqlEE
  rcases Bool.eq_false_or_eq_true (c == a) with hb | hb
  · have HB : Hid ((c == a) = true) := hb
    go_enter Tryd.func73, Tryd.ntmps73
    go_wp2
    go_ret
    exact ⟨ret_bool HB.out, (Below.refl _ _).alloc (Nat.le_refl _) _⟩
  · have HB : Hid ((c == a) = false) := hb
    go_enter Tryd.func73, Tryd.ntmps73
    go_wp2
    go_ret
    exact ⟨ret_bool HB.out, (Below.refl _ _).alloc (Nat.le_refl _) _⟩

set_option maxHeartbeats 1000000 in
set_option maxRecDepth 100000 in
theorem aloneIs_O (b0 : Nat) (a : Int) (w : World) : Calls Tryd.prog 73 #[.agg #[.iface 53 (.pointer (some ⟨b0, 0, none⟩))], .iface 31 (.int .i64 a)] w fun ev w' => ev = .returned (.bool false) ∧ Below w.heap.size w w' := by
  have g1 := Tryd.isOIs
  have q1 := Tryd.eqlOE
  go_enter Tryd.func73, Tryd.ntmps73
  go_wp2
  go_ret
  exact ⟨rfl, (Below.refl _ _).alloc (Nat.le_refl _) _⟩

end Go.Proofs.YtbidhljigeoooaaDoor
