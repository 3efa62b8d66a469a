/-
  OWN WORK. errors.As asked of an error alone.
-/
import Derived.Test.YtbidhljigeoooaaDoorFaAloneM
namespace Go.Proofs.YtbidhljigeoooaaDoor
open Go.RowKit Go.Extern.Stop Go.Stop Go.Extern

set_option maxHeartbeats 1000000 in
set_option maxRecDepth 100000 in
theorem as_PA_F (e : Addr) (t a : Addr) (old : Value) (w : World) (ht0 : w.cell? t = some old) (hf0 : w.frozen? t = false) :
    Calls Tryd.prog 38 #[.iface 89 (.agg #[.iface 28 (.pointer (some e))]), .iface 49 (.pointer (some t)), .agg #[.pointer (some ⟨1, 49, none⟩), .pointer (some a), .int .u64 150], .iface 91 (.agg #[.pointer (some ⟨1, 28, none⟩)])] w
      fun ev w' => ev = .returned (.bool true) ∧ Sets w t (.pointer (some e)) w' := by
  have c1 := @run_callFunc_extern Tryd.prog 27 _ ReflectliteType.typeOf Tryd.func27 (by kernel_rfl) (by kernel_rfl) (by kernel_rfl) (by kernel_rfl)
  have c2 := @run_callFunc_extern Tryd.prog 81 _ (ReflectliteType.relation "AssignableTo" ReflectliteType.assignableTo) Tryd.func81 (by kernel_rfl) (by kernel_rfl) (by kernel_rfl) (by kernel_rfl)
  have f1 := Tryd.typeOfAP
  have f2 := Tryd.asgAP
  have f4 := Tryd.methodAssignableTo
  have g1 := Tryd.isAPAs
  have g2 := Tryd.isAPUw
  have g3 := Tryd.isAPUl
  have m1 := Tryd.methodAsP
  have htl : t.block < w.heap.size := World.block_lt_of_cell? _ _ ht0
  have h1 : (w.alloc (.cells #[.pointer (some ⟨1, 49, none⟩), .pointer (some a), .int .u64 150] 82)).cell? t = some old := by rw [World.cell?_alloc_lt _ _ t htl]; exact ht0
  have h2 : (w.alloc (.cells #[.pointer (some ⟨1, 49, none⟩), .pointer (some a), .int .u64 150] 82)).frozen? t = false := by rw [World.frozen?_alloc_old _ _ t (Nat.ne_of_lt htl)]; exact hf0
  have H := Lib.hid (aloneAs_PF e t old _ h1 h2)
  clear ht0 hf0 h1 h2
  go_enter Tryd.func38, Tryd.ntmps38
  go_wp2
  refine wp_loop_rounds 1 ?_
  rw [rounds_succ]
  go_wp2_with fail
  refine H.out.mono ?_
  rintro e w1 ⟨rfl, hs⟩
  have HS := Lib.hid hs
  clear hs H
  go_wp2
  go_ret
  obtain ⟨w2, hb, rfl⟩ := HS.out
  exact ⟨rfl, w2, (below_new1 w _).trans (hb.mono (by simp)), rfl⟩

set_option maxHeartbeats 1000000 in
set_option maxRecDepth 100000 in
theorem As_PA_F (w : World) (e : Addr) (t : Addr) (old : Value) (hg : w.cell? ⟨0, 0, none⟩ = some (.iface 91 (.agg #[.pointer (some ⟨1, 23, none⟩)]))) (ht0 : w.cell? t = some old) (hf0 : w.frozen? t = false) :
    Calls Tryd.prog 22 #[.iface 89 (.agg #[.iface 28 (.pointer (some e))]), .iface 49 (.pointer (some t))] w fun ev w' => ev = .returned (.bool true) ∧ Sets w t (.pointer (some e)) w' := by
  have c1 := @run_callFunc_extern Tryd.prog 35 _ (fun args => ReflectliteValue.unpack (args.getD 0 (.tuple #[]))) Tryd.func35 (by kernel_rfl) (by kernel_rfl) (by kernel_rfl) (by kernel_rfl)
  have c2 := @run_callFunc_extern Tryd.prog 36 _ (ReflectliteValue.methodAny (ReflectliteValue.valueError "reflectlite.Value.Type" 0) (fun t _ _ _ => ReflectliteType.toType t)) Tryd.func36 (by kernel_rfl) (by kernel_rfl) (by kernel_rfl) (by kernel_rfl)
  have c3 := @run_callFunc_extern Tryd.prog 66 _ (ReflectliteType.abiMethod fun t => do pure (.int .u8 (← Rtype.kind t))) Tryd.func66 (by kernel_rfl) (by kernel_rfl) (by kernel_rfl) (by kernel_rfl)
  have c4 := @run_callFunc_extern Tryd.prog 37 _ (ReflectliteValue.method (ReflectliteValue.valueError "reflectlite.Value.IsNil" 0) ReflectliteValue.isNil) Tryd.func37 (by kernel_rfl) (by kernel_rfl) (by kernel_rfl) (by kernel_rfl)
  have c5 := @run_callFunc_extern Tryd.prog 83 _ (ReflectliteType.method ReflectliteType.elem) Tryd.func83 (by kernel_rfl) (by kernel_rfl) (by kernel_rfl) (by kernel_rfl)
  have c6 := @run_callFunc_extern Tryd.prog 84 _ (ReflectliteType.relation "Implements" ReflectliteType.implements_) Tryd.func84 (by kernel_rfl) (by kernel_rfl) (by kernel_rfl) (by kernel_rfl)
  have f1 := Tryd.valueOfF
  have f2 := Tryd.typeF
  have f3 := Tryd.kindPF
  have f4 := Tryd.kindF
  have f5 := Tryd.elemTF
  have f6 := Tryd.implementsF
  have m1 := Tryd.methodKind
  have m2 := Tryd.methodElem
  have m3 := Tryd.methodImplements
  have htl : t.block < w.heap.size := World.block_lt_of_cell? _ _ ht0
  have hgl : 0 < w.heap.size := cell_lt hg
  obtain ⟨W, hW⟩ : ∃ W, W = (w.alloc (.cells #[.pointer (some t)] 49)).alloc (.cells #[.pointer (some ⟨1, 49, none⟩), .pointer (some ⟨w.heap.size, 0, none⟩), .int .u64 150] 82) := ⟨_, rfl⟩
  have n1 := Tryd.isNilF ⟨w.heap.size, 0, none⟩ t W (by rw [hW]; simp)
  have hg2 : W.cell? ⟨0, 0, none⟩ = some (.iface 91 (.agg #[.pointer (some ⟨1, 23, none⟩)])) := by
    rw [hW, World.cell?_alloc_lt _ _ ⟨0, 0, none⟩ (by simp), World.cell?_alloc_lt _ _ ⟨0, 0, none⟩ hgl]; exact hg
  have hbW : Below w.heap.size w W := by rw [hW]; exact ((Below.refl _ _).alloc (Nat.le_refl _) _).alloc (by simp) _
  have ht' : W.cell? t = some old := by rw [hW, World.cell?_alloc_lt _ _ t (by simp; omega), World.cell?_alloc_lt _ _ t htl]; exact ht0
  have hf' : W.frozen? t = false := by rw [hW, World.frozen?_alloc_old _ _ t (by simp; omega), World.frozen?_alloc_old _ _ t (Nat.ne_of_lt htl)]; exact hf0
  have H := Lib.hid (as_PA_F e t ⟨w.heap.size, 0, none⟩ old W ht' hf')
  have HBW := Lib.hid hbW
  rw [hW] at n1 hg2 H HBW
  clear hbW hg ht0 ht' hf' hf0
  clear hW W
  go_enter Tryd.func22, Tryd.ntmps22
  go_wp2_with fail
  refine H.out.mono ?_
  rintro ev w1 ⟨rfl, hs⟩
  have HS := Lib.hid hs
  clear hs H
  go_wp2
  go_ret
  obtain ⟨w2, hb, rfl⟩ := HS.out
  exact ⟨rfl, w2, HBW.out.trans (hb.mono HBW.out.size), rfl⟩

set_option maxHeartbeats 1000000 in
set_option maxRecDepth 100000 in
theorem as_PA_N (c : Int) (t a : Addr) (w : World) :
    Calls Tryd.prog 38 #[.iface 89 (.agg #[.iface 31 (.int .i64 c)]), .iface 49 (.pointer (some t)), .agg #[.pointer (some ⟨1, 49, none⟩), .pointer (some a), .int .u64 150], .iface 91 (.agg #[.pointer (some ⟨1, 28, none⟩)])] w
      fun ev w' => ev = .returned (.bool false) ∧ Below w.heap.size w w' := by
  have c1 := @run_callFunc_extern Tryd.prog 27 _ ReflectliteType.typeOf Tryd.func27 (by kernel_rfl) (by kernel_rfl) (by kernel_rfl) (by kernel_rfl)
  have c2 := @run_callFunc_extern Tryd.prog 81 _ (ReflectliteType.relation "AssignableTo" ReflectliteType.assignableTo) Tryd.func81 (by kernel_rfl) (by kernel_rfl) (by kernel_rfl) (by kernel_rfl)
  have f1 := Tryd.typeOfAP
  have f2 := Tryd.asgAP
  have f4 := Tryd.methodAssignableTo
  have g1 := Tryd.isAPAs
  have g2 := Tryd.isAPUw
  have g3 := Tryd.isAPUl
  have m1 := Tryd.methodAsP
  have H := Lib.hid (aloneAs_PN c t (w.alloc (.cells #[.pointer (some ⟨1, 49, none⟩), .pointer (some a), .int .u64 150] 82)))
  go_enter Tryd.func38, Tryd.ntmps38
  go_wp2
  refine wp_loop_rounds 1 ?_
  rw [rounds_succ]
  go_wp2_with fail
  refine H.out.mono ?_
  rintro e w1 ⟨rfl, hs⟩
  have HS := Lib.hid hs
  clear hs H
  go_wp2
  go_ret
  exact ⟨rfl, (below_new1 w _).trans (HS.out.mono (by simp))⟩

set_option maxHeartbeats 1000000 in
set_option maxRecDepth 100000 in
theorem As_PA_N (w : World) (c : Int) (t : Addr) (old : Value) (hg : w.cell? ⟨0, 0, none⟩ = some (.iface 91 (.agg #[.pointer (some ⟨1, 23, none⟩)]))) (ht0 : w.cell? t = some old) :
    Calls Tryd.prog 22 #[.iface 89 (.agg #[.iface 31 (.int .i64 c)]), .iface 49 (.pointer (some t))] w fun ev w' => ev = .returned (.bool false) ∧ Below w.heap.size w w' := by
  have c1 := @run_callFunc_extern Tryd.prog 35 _ (fun args => ReflectliteValue.unpack (args.getD 0 (.tuple #[]))) Tryd.func35 (by kernel_rfl) (by kernel_rfl) (by kernel_rfl) (by kernel_rfl)
  have c2 := @run_callFunc_extern Tryd.prog 36 _ (ReflectliteValue.methodAny (ReflectliteValue.valueError "reflectlite.Value.Type" 0) (fun t _ _ _ => ReflectliteType.toType t)) Tryd.func36 (by kernel_rfl) (by kernel_rfl) (by kernel_rfl) (by kernel_rfl)
  have c3 := @run_callFunc_extern Tryd.prog 66 _ (ReflectliteType.abiMethod fun t => do pure (.int .u8 (← Rtype.kind t))) Tryd.func66 (by kernel_rfl) (by kernel_rfl) (by kernel_rfl) (by kernel_rfl)
  have c4 := @run_callFunc_extern Tryd.prog 37 _ (ReflectliteValue.method (ReflectliteValue.valueError "reflectlite.Value.IsNil" 0) ReflectliteValue.isNil) Tryd.func37 (by kernel_rfl) (by kernel_rfl) (by kernel_rfl) (by kernel_rfl)
  have c5 := @run_callFunc_extern Tryd.prog 83 _ (ReflectliteType.method ReflectliteType.elem) Tryd.func83 (by kernel_rfl) (by kernel_rfl) (by kernel_rfl) (by kernel_rfl)
  have c6 := @run_callFunc_extern Tryd.prog 84 _ (ReflectliteType.relation "Implements" ReflectliteType.implements_) Tryd.func84 (by kernel_rfl) (by kernel_rfl) (by kernel_rfl) (by kernel_rfl)
  have f1 := Tryd.valueOfF
  have f2 := Tryd.typeF
  have f3 := Tryd.kindPF
  have f4 := Tryd.kindF
  have f5 := Tryd.elemTF
  have f6 := Tryd.implementsF
  have m1 := Tryd.methodKind
  have m2 := Tryd.methodElem
  have m3 := Tryd.methodImplements
  have htl : t.block < w.heap.size := World.block_lt_of_cell? _ _ ht0
  have hgl : 0 < w.heap.size := cell_lt hg
  obtain ⟨W, hW⟩ : ∃ W, W = (w.alloc (.cells #[.pointer (some t)] 49)).alloc (.cells #[.pointer (some ⟨1, 49, none⟩), .pointer (some ⟨w.heap.size, 0, none⟩), .int .u64 150] 82) := ⟨_, rfl⟩
  have n1 := Tryd.isNilF ⟨w.heap.size, 0, none⟩ t W (by rw [hW]; simp)
  have hg2 : W.cell? ⟨0, 0, none⟩ = some (.iface 91 (.agg #[.pointer (some ⟨1, 23, none⟩)])) := by
    rw [hW, World.cell?_alloc_lt _ _ ⟨0, 0, none⟩ (by simp), World.cell?_alloc_lt _ _ ⟨0, 0, none⟩ hgl]; exact hg
  have hbW : Below w.heap.size w W := by rw [hW]; exact ((Below.refl _ _).alloc (Nat.le_refl _) _).alloc (by simp) _
  have H := Lib.hid (as_PA_N c t ⟨w.heap.size, 0, none⟩ W)
  have HBW := Lib.hid hbW
  rw [hW] at n1 hg2 H HBW
  clear hbW hg ht0
  clear hW W
  go_enter Tryd.func22, Tryd.ntmps22
  go_wp2_with fail
  refine H.out.mono ?_
  rintro ev w1 ⟨rfl, hs⟩
  have HS := Lib.hid hs
  clear hs H
  go_wp2
  go_ret
  exact ⟨rfl, HBW.out.trans (HS.out.mono HBW.out.size)⟩

set_option maxHeartbeats 1000000 in
set_option maxRecDepth 100000 in
theorem as_PA_O (b0 : Nat) (t a : Addr) (w : World) :
    Calls Tryd.prog 38 #[.iface 89 (.agg #[.iface 53 (.pointer (some ⟨b0, 0, none⟩))]), .iface 49 (.pointer (some t)), .agg #[.pointer (some ⟨1, 49, none⟩), .pointer (some a), .int .u64 150], .iface 91 (.agg #[.pointer (some ⟨1, 28, none⟩)])] w
      fun ev w' => ev = .returned (.bool false) ∧ Below w.heap.size w w' := by
  have c1 := @run_callFunc_extern Tryd.prog 27 _ ReflectliteType.typeOf Tryd.func27 (by kernel_rfl) (by kernel_rfl) (by kernel_rfl) (by kernel_rfl)
  have c2 := @run_callFunc_extern Tryd.prog 81 _ (ReflectliteType.relation "AssignableTo" ReflectliteType.assignableTo) Tryd.func81 (by kernel_rfl) (by kernel_rfl) (by kernel_rfl) (by kernel_rfl)
  have f1 := Tryd.typeOfAP
  have f2 := Tryd.asgAP
  have f4 := Tryd.methodAssignableTo
  have g1 := Tryd.isAPAs
  have g2 := Tryd.isAPUw
  have g3 := Tryd.isAPUl
  have m1 := Tryd.methodAsP
  have H := Lib.hid (aloneAs_PO b0 t (w.alloc (.cells #[.pointer (some ⟨1, 49, none⟩), .pointer (some a), .int .u64 150] 82)))
  go_enter Tryd.func38, Tryd.ntmps38
  go_wp2
  refine wp_loop_rounds 1 ?_
  rw [rounds_succ]
  go_wp2_with fail
  refine H.out.mono ?_
  rintro e w1 ⟨rfl, hs⟩
  have HS := Lib.hid hs
  clear hs H
  go_wp2
  go_ret
  exact ⟨rfl, (below_new1 w _).trans (HS.out.mono (by simp))⟩

set_option maxHeartbeats 1000000 in
set_option maxRecDepth 100000 in
theorem As_PA_O (w : World) (b0 : Nat) (t : Addr) (old : Value) (hg : w.cell? ⟨0, 0, none⟩ = some (.iface 91 (.agg #[.pointer (some ⟨1, 23, none⟩)]))) (ht0 : w.cell? t = some old) :
    Calls Tryd.prog 22 #[.iface 89 (.agg #[.iface 53 (.pointer (some ⟨b0, 0, none⟩))]), .iface 49 (.pointer (some t))] w fun ev w' => ev = .returned (.bool false) ∧ Below w.heap.size w w' := by
  have c1 := @run_callFunc_extern Tryd.prog 35 _ (fun args => ReflectliteValue.unpack (args.getD 0 (.tuple #[]))) Tryd.func35 (by kernel_rfl) (by kernel_rfl) (by kernel_rfl) (by kernel_rfl)
  have c2 := @run_callFunc_extern Tryd.prog 36 _ (ReflectliteValue.methodAny (ReflectliteValue.valueError "reflectlite.Value.Type" 0) (fun t _ _ _ => ReflectliteType.toType t)) Tryd.func36 (by kernel_rfl) (by kernel_rfl) (by kernel_rfl) (by kernel_rfl)
  have c3 := @run_callFunc_extern Tryd.prog 66 _ (ReflectliteType.abiMethod fun t => do pure (.int .u8 (← Rtype.kind t))) Tryd.func66 (by kernel_rfl) (by kernel_rfl) (by kernel_rfl) (by kernel_rfl)
  have c4 := @run_callFunc_extern Tryd.prog 37 _ (ReflectliteValue.method (ReflectliteValue.valueError "reflectlite.Value.IsNil" 0) ReflectliteValue.isNil) Tryd.func37 (by kernel_rfl) (by kernel_rfl) (by kernel_rfl) (by kernel_rfl)
  have c5 := @run_callFunc_extern Tryd.prog 83 _ (ReflectliteType.method ReflectliteType.elem) Tryd.func83 (by kernel_rfl) (by kernel_rfl) (by kernel_rfl) (by kernel_rfl)
  have c6 := @run_callFunc_extern Tryd.prog 84 _ (ReflectliteType.relation "Implements" ReflectliteType.implements_) Tryd.func84 (by kernel_rfl) (by kernel_rfl) (by kernel_rfl) (by kernel_rfl)
  have f1 := Tryd.valueOfF
  have f2 := Tryd.typeF
  have f3 := Tryd.kindPF
  have f4 := Tryd.kindF
  have f5 := Tryd.elemTF
  have f6 := Tryd.implementsF
  have m1 := Tryd.methodKind
  have m2 := Tryd.methodElem
  have m3 := Tryd.methodImplements
  have htl : t.block < w.heap.size := World.block_lt_of_cell? _ _ ht0
  have hgl : 0 < w.heap.size := cell_lt hg
  obtain ⟨W, hW⟩ : ∃ W, W = (w.alloc (.cells #[.pointer (some t)] 49)).alloc (.cells #[.pointer (some ⟨1, 49, none⟩), .pointer (some ⟨w.heap.size, 0, none⟩), .int .u64 150] 82) := ⟨_, rfl⟩
  have n1 := Tryd.isNilF ⟨w.heap.size, 0, none⟩ t W (by rw [hW]; simp)
  have hg2 : W.cell? ⟨0, 0, none⟩ = some (.iface 91 (.agg #[.pointer (some ⟨1, 23, none⟩)])) := by
    rw [hW, World.cell?_alloc_lt _ _ ⟨0, 0, none⟩ (by simp), World.cell?_alloc_lt _ _ ⟨0, 0, none⟩ hgl]; exact hg
  have hbW : Below w.heap.size w W := by rw [hW]; exact ((Below.refl _ _).alloc (Nat.le_refl _) _).alloc (by simp) _
  have H := Lib.hid (as_PA_O b0 t ⟨w.heap.size, 0, none⟩ W)
  have HBW := Lib.hid hbW
  rw [hW] at n1 hg2 H HBW
  clear hbW hg ht0
  clear hW W
  go_enter Tryd.func22, Tryd.ntmps22
  go_wp2_with fail
  refine H.out.mono ?_
  rintro ev w1 ⟨rfl, hs⟩
  have HS := Lib.hid hs
  clear hs H
  go_wp2
  go_ret
  exact ⟨rfl, HBW.out.trans (HS.out.mono HBW.out.size)⟩

end Go.Proofs.YtbidhljigeoooaaDoor
