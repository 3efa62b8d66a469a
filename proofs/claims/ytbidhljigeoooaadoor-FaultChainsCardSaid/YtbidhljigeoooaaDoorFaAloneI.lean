/-
  OWN WORK. errors.Is asked of an error alone.
-/
import Derived.Test.YtbidhljigeoooaaDoorFaAloneM
namespace Go.Proofs.YtbidhljigeoooaaDoor
open Go.RowKit Go.Extern.Stop Go.Stop Go.Extern

set_option maxHeartbeats 1000000 in
set_option maxRecDepth 100000 in
theorem isA_F (e : Addr) (a : Int) (w : World) : Calls Tryd.prog 28 #[.iface 77 (.agg #[.iface 28 (.pointer (some e))]), .iface 31 (.int .i64 a), .bool true] w fun ev w' => ev = .returned (.bool false) ∧ Below w.heap.size w w' := by
  have g1 := Tryd.isAEIs
  have g2 := Tryd.isAEUw
  have g3 := Tryd.isAEUl
  have m := Tryd.methodIsE
  have q1 := Tryd.eqlAE
  have H := Lib.hid (aloneIs_F e a w)
  go_enter Tryd.func28, Tryd.ntmps28
  go_wp2
  refine wp_loop_rounds 1 ?_
  rw [rounds_succ]
  go_wp2_with fail
  refine H.out.mono ?_
  rintro e w1 ⟨rfl, hs⟩
  have HS := Lib.hid hs
  clear hs H
  go_wp2
  go_ret
  exact ⟨rfl, HS.out⟩

set_option maxHeartbeats 1000000 in
set_option maxRecDepth 100000 in
theorem IsA_F (e : Addr) (a : Int) (w : World) : Calls Tryd.prog 13 #[.iface 77 (.agg #[.iface 28 (.pointer (some e))]), .iface 31 (.int .i64 a)] w fun ev w' => ev = .returned (.bool false) ∧ Below w.heap.size w w' := by
  have c1 := @run_callFunc_extern Tryd.prog 27 _ ReflectliteType.typeOf Tryd.func27 (by kernel_rfl) (by kernel_rfl) (by kernel_rfl) (by kernel_rfl)
  have c2 := @run_callFunc_extern Tryd.prog 82 _ (ReflectliteType.method fun t => do Rtype.noPackHeld "Comparable" t; pure (.bool (← typeInfo t).comparable)) Tryd.func82 (by kernel_rfl) (by kernel_rfl) (by kernel_rfl) (by kernel_rfl)
  have f1 := Tryd.typeOfE
  have f2 := Tryd.compE
  have m1 := Tryd.methodComparable
  have H := Lib.hid (isA_F e a w)
  go_enter Tryd.func13, Tryd.ntmps13
  go_wp2_with fail
  refine H.out.mono ?_
  rintro e w1 ⟨rfl, hs⟩
  have HS := Lib.hid hs
  clear hs H
  go_wp2
  go_ret
  exact ⟨rfl, HS.out⟩

set_option maxHeartbeats 1000000 in
set_option maxRecDepth 100000 in
theorem isA_N (c : Int) (a : Int) (w : World) : Calls Tryd.prog 28 #[.iface 77 (.agg #[.iface 31 (.int .i64 c)]), .iface 31 (.int .i64 a), .bool true] w fun ev w' => ev = .returned (.bool (c == a)) ∧ Below w.heap.size w w' := by
  have g1 := Tryd.isAEIs
  have g2 := Tryd.isAEUw
  have g3 := Tryd.isAEUl
  have m := Tryd.methodIsE
  have q1 := Tryd.eqlAE
  have H := Lib.hid (aloneIs_N c a w)
  go_enter Tryd.func28, Tryd.ntmps28
  go_wp2
  refine wp_loop_rounds 1 ?_
  rw [rounds_succ]
  go_wp2_with fail
  refine H.out.mono ?_
  rintro e w1 ⟨rfl, hs⟩
  have HS := Lib.hid hs
  clear hs H
  rcases Bool.eq_false_or_eq_true (c == a) with hb | hb
  · have HB : Hid ((c == a) = true) := hb
    go_wp2
    go_ret
    exact ⟨ret_bool HB.out, HS.out⟩
  · have HB : Hid ((c == a) = false) := hb
    go_wp2
    go_ret
    exact ⟨ret_bool HB.out, HS.out⟩

set_option maxHeartbeats 1000000 in
set_option maxRecDepth 100000 in
theorem IsA_N (c : Int) (a : Int) (w : World) : Calls Tryd.prog 13 #[.iface 77 (.agg #[.iface 31 (.int .i64 c)]), .iface 31 (.int .i64 a)] w fun ev w' => ev = .returned (.bool (c == a)) ∧ Below w.heap.size w w' := by
  have c1 := @run_callFunc_extern Tryd.prog 27 _ ReflectliteType.typeOf Tryd.func27 (by kernel_rfl) (by kernel_rfl) (by kernel_rfl) (by kernel_rfl)
  have c2 := @run_callFunc_extern Tryd.prog 82 _ (ReflectliteType.method fun t => do Rtype.noPackHeld "Comparable" t; pure (.bool (← typeInfo t).comparable)) Tryd.func82 (by kernel_rfl) (by kernel_rfl) (by kernel_rfl) (by kernel_rfl)
  have f1 := Tryd.typeOfE
  have f2 := Tryd.compE
  have m1 := Tryd.methodComparable
  have H := Lib.hid (isA_N c a w)
  go_enter Tryd.func13, Tryd.ntmps13
  go_wp2_with fail
  refine H.out.mono ?_
  rintro e w1 ⟨rfl, hs⟩
  have HS := Lib.hid hs
  clear hs H
  go_wp2
  go_ret
  exact ⟨rfl, HS.out⟩

set_option maxHeartbeats 1000000 in
set_option maxRecDepth 100000 in
theorem isA_O (b0 : Nat) (a : Int) (w : World) : Calls Tryd.prog 28 #[.iface 77 (.agg #[.iface 53 (.pointer (some ⟨b0, 0, none⟩))]), .iface 31 (.int .i64 a), .bool true] w fun ev w' => ev = .returned (.bool false) ∧ Below w.heap.size w w' := by
  have g1 := Tryd.isAEIs
  have g2 := Tryd.isAEUw
  have g3 := Tryd.isAEUl
  have m := Tryd.methodIsE
  have q1 := Tryd.eqlAE
  have H := Lib.hid (aloneIs_O b0 a w)
  go_enter Tryd.func28, Tryd.ntmps28
  go_wp2
  refine wp_loop_rounds 1 ?_
  rw [rounds_succ]
  go_wp2_with fail
  refine H.out.mono ?_
  rintro e w1 ⟨rfl, hs⟩
  have HS := Lib.hid hs
  clear hs H
  go_wp2
  go_ret
  exact ⟨rfl, HS.out⟩

set_option maxHeartbeats 1000000 in
set_option maxRecDepth 100000 in
theorem IsA_O (b0 : Nat) (a : Int) (w : World) : Calls Tryd.prog 13 #[.iface 77 (.agg #[.iface 53 (.pointer (some ⟨b0, 0, none⟩))]), .iface 31 (.int .i64 a)] w fun ev w' => ev = .returned (.bool false) ∧ Below w.heap.size w w' := by
  have c1 := @run_callFunc_extern Tryd.prog 27 _ ReflectliteType.typeOf Tryd.func27 (by kernel_rfl) (by kernel_rfl) (by kernel_rfl) (by kernel_rfl)
  have c2 := @run_callFunc_extern Tryd.prog 82 _ (ReflectliteType.method fun t => do Rtype.noPackHeld "Comparable" t; pure (.bool (← typeInfo t).comparable)) Tryd.func82 (by kernel_rfl) (by kernel_rfl) (by kernel_rfl) (by kernel_rfl)
  have f1 := Tryd.typeOfE
  have f2 := Tryd.compE
  have m1 := Tryd.methodComparable
  have H := Lib.hid (isA_O b0 a w)
  go_enter Tryd.func13, Tryd.ntmps13
  go_wp2_with fail
  refine H.out.mono ?_
  rintro e w1 ⟨rfl, hs⟩
  have HS := Lib.hid hs
  clear hs H
  go_wp2
  go_ret
  exact ⟨rfl, HS.out⟩

end Go.Proofs.YtbidhljigeoooaaDoor
