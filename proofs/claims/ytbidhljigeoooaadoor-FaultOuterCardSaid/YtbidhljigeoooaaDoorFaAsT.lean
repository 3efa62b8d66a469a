/-
  OWN WORK. errors.As as a whole, over chains: what it answers, and that it writes into its target alone.
-/
import Derived.Test.YtbidhljigeoooaaDoorFaAsE
namespace Go.Proofs.YtbidhljigeoooaaDoor
open Go.RowKit Go.Extern.Stop Go.Stop Go.Extern

/-- 'w'' is 'w' with new blocks, and 'v' written into the old cell 't'. -/
def Sets (w : World) (t : Addr) (v : Value) (w' : World) : Prop := ∃ w1, Below w.heap.size w w1 ∧ w' = w1.setCell t v

theorem Sets.cell {w w' : World} {b : Nat} {v old : Value} (h : Sets w ⟨b, 0, none⟩ v w') (ht : w.cell? ⟨b, 0, none⟩ = some old) : w'.cell? ⟨b, 0, none⟩ = some v := by
  obtain ⟨w1, hb, rfl⟩ := h
  have h1 : w1.cell? ⟨b, 0, none⟩ = some old := by rw [hb.cell (p := ⟨b, 0, none⟩) (cell_lt ht)]; exact ht
  exact World.cell?_setCell_same' _ _ _ (by simp [h1])

theorem Sets.below {w w' : World} {t : Addr} {v : Value} {B : Nat} (h : Sets w t v w') (h1 : B ≤ t.block) (h2 : B ≤ w.heap.size) : Below B w w' := by
  obtain ⟨w1, hb, rfl⟩ := h
  exact (hb.mono h2).setCell h1 v

theorem Sets.size {w w' : World} {t : Addr} {v : Value} (h : Sets w t v w') : w.heap.size ≤ w'.heap.size := by
  obtain ⟨w1, hb, rfl⟩ := h
  have := hb.size
  simpa [World.setCell] using this

theorem Sets.other {w w' : World} {b o : Nat} {t : Addr} {v : Value} (h : Sets w t v w') (hb : b < w.heap.size) (hne : b ≠ t.block) : w'.cell? ⟨b, o, none⟩ = w.cell? ⟨b, o, none⟩ := by
  obtain ⟨w1, hw, rfl⟩ := h
  have e : (w1.setCell t v).heap[b]? = w1.heap[b]? := Below.heap_setCell _ _ _ _ hne
  have e1 : (w1.setCell t v).cell? ⟨b, o, none⟩ = w1.cell? ⟨b, o, none⟩ := by simp only [World.cell?, e]
  rw [e1]
  exact hw.cell (p := ⟨b, o, none⟩) hb

theorem Sets.otherFrozen {w w' : World} {b o : Nat} {t : Addr} {v : Value} (h : Sets w t v w') (hb : b < w.heap.size) (hne : b ≠ t.block) : w'.frozen? ⟨b, o, none⟩ = w.frozen? ⟨b, o, none⟩ := by
  obtain ⟨w1, hw, rfl⟩ := h
  have e : (w1.setCell t v).heap[b]? = w1.heap[b]? := Below.heap_setCell _ _ _ _ hne
  have e1 : (w1.setCell t v).frozen? ⟨b, o, none⟩ = w1.frozen? ⟨b, o, none⟩ := by simp only [World.frozen?, e]
  rw [e1]
  exact hw.frozen (p := ⟨b, o, none⟩) hb

theorem As_nil (t : Value) (w : World) : Calls Tryd.prog 22 #[.nilIface, t] w fun e w' => e = .returned (.bool false) ∧ w = w' := by
  go_enter Tryd.func22, Tryd.ntmps22
  go_wp2
  go_ret
  exact ⟨rfl, rfl⟩

set_option maxHeartbeats 1000000 in
theorem As_F_hit (w : World) (e t : Addr) (old : Value) (hg : w.cell? ⟨0, 0, none⟩ = some (.iface 91 (.agg #[.pointer (some ⟨1, 23, none⟩)]))) (ht0 : w.cell? t = some old) (hf0 : w.frozen? t = false) :
    Calls Tryd.prog 22 #[.iface 28 (.pointer (some e)), .iface 49 (.pointer (some t))] w fun ev w' => ev = .returned (.bool true) ∧ Sets w t (.pointer (some e)) w' := by
  have c1 := @run_callFunc_extern Tryd.prog 35 _ (fun args => ReflectliteValue.unpack (args.getD 0 (.tuple #[]))) Tryd.func35 (by kernel_rfl) (by kernel_rfl) (by kernel_rfl) (by kernel_rfl)
  have c2 := @run_callFunc_extern Tryd.prog 36 _ (ReflectliteValue.methodAny (ReflectliteValue.valueError "reflectlite.Value.Type" 0) (fun t _ _ _ => ReflectliteType.toType t)) Tryd.func36 (by kernel_rfl) (by kernel_rfl) (by kernel_rfl) (by kernel_rfl)
  have c3 := @run_callFunc_extern Tryd.prog 66 _ (ReflectliteType.abiMethod fun t => do pure (.int .u8 (← Rtype.kind t))) Tryd.func66 (by kernel_rfl) (by kernel_rfl) (by kernel_rfl) (by kernel_rfl)
  have c4 := @run_callFunc_extern Tryd.prog 37 _ (ReflectliteValue.method (ReflectliteValue.valueError "reflectlite.Value.IsNil" 0) ReflectliteValue.isNil) Tryd.func37 (by kernel_rfl) (by kernel_rfl) (by kernel_rfl) (by kernel_rfl)
  have c5 := @run_callFunc_extern Tryd.prog 83 _ (ReflectliteType.method ReflectliteType.elem) Tryd.func83 (by kernel_rfl) (by kernel_rfl) (by kernel_rfl) (by kernel_rfl)
  have c6 := @run_callFunc_extern Tryd.prog 84 _ (ReflectliteType.relation "Implements" ReflectliteType.implements_) Tryd.func84 (by kernel_rfl) (by kernel_rfl) (by kernel_rfl) (by kernel_rfl)
  have f1 := Tryd.valueOfF
  have f2 := Tryd.typeF
  have f3 := Tryd.kindPF
  have f4 := Tryd.kindF
  have f5 := Tryd.elemTF
  have f6 := Tryd.implementsF
  have m1 := Tryd.methodKind
  have m2 := Tryd.methodElem
  have m3 := Tryd.methodImplements
  have htl : t.block < w.heap.size := World.block_lt_of_cell? _ _ ht0
  have hgl : 0 < w.heap.size := cell_lt hg
  obtain ⟨W, hW⟩ : ∃ W, W = (w.alloc (.cells #[.pointer (some t)] 49)).alloc (.cells #[.pointer (some ⟨1, 49, none⟩), .pointer (some ⟨w.heap.size, 0, none⟩), .int .u64 150] 82) := ⟨_, rfl⟩
  have hsz : W.heap.size = w.heap.size + 1 + 1 := by rw [hW]; simp
  have n1 := Tryd.isNilF ⟨w.heap.size, 0, none⟩ t W (by rw [hW]; simp)
  have hg2 : W.cell? ⟨0, 0, none⟩ = some (.iface 91 (.agg #[.pointer (some ⟨1, 23, none⟩)])) := by
    rw [hW, World.cell?_alloc_lt _ _ ⟨0, 0, none⟩ (by simp), World.cell?_alloc_lt _ _ ⟨0, 0, none⟩ hgl]; exact hg
  have ha' : W.cell? ⟨w.heap.size, 0, none⟩ = some (.pointer (some t)) := by rw [hW]; simp
  have ht' : W.cell? t = some old := by rw [hW, World.cell?_alloc_lt _ _ t (by simp; omega), World.cell?_alloc_lt _ _ t htl]; exact ht0
  have hf' : W.frozen? t = false := by rw [hW, World.frozen?_alloc_old _ _ t (by simp; omega), World.frozen?_alloc_old _ _ t (Nat.ne_of_lt htl)]; exact hf0
  have hbW : Below w.heap.size w W := by rw [hW]; exact ((Below.refl _ _).alloc (Nat.le_refl _) _).alloc (by simp) _
  skip
  rw [hW] at n1 hg2
  have Ht0 : Hid (w.cell? t = some old) := ht0
  have HA : Hid (W.cell? ⟨w.heap.size, 0, none⟩ = some (.pointer (some t))) := ha'
  have HT : Hid (W.cell? t = some old) := ht'
  have HW : Hid (W = _) := hW
  have HS : Hid (W.heap.size = w.heap.size + 1 + 1) := hsz
  clear ha' ht' hW hsz hg ht0
  go_enter Tryd.func22, Tryd.ntmps22
  go_wp2_with fail
  refine (as_F_hit e t ⟨w.heap.size, 0, none⟩ old _ ?_ ?_ ?_).mono ?_
  all_goals first | (rw [← HW.out]; first | exact HA.out | exact HT.out | exact hf') | skip
  rintro ev w' ⟨rfl, rfl⟩
  go_wp2
  go_ret
  exact ⟨rfl, _, ((((Below.refl _ _).alloc (Nat.le_refl _) _).alloc (by simp) _).alloc (by simp; omega) _).alloc (by simp; omega) _, rfl⟩

set_option maxHeartbeats 1000000 in
theorem As_F_num (w : World) (c : Int) (t : Addr) (old : Value) (hg : w.cell? ⟨0, 0, none⟩ = some (.iface 91 (.agg #[.pointer (some ⟨1, 23, none⟩)]))) (ht0 : w.cell? t = some old) :
    Calls Tryd.prog 22 #[.iface 31 (.int .i64 c), .iface 49 (.pointer (some t))] w fun ev w' => ev = .returned (.bool false) ∧ Below w.heap.size w w' := by
  have c1 := @run_callFunc_extern Tryd.prog 35 _ (fun args => ReflectliteValue.unpack (args.getD 0 (.tuple #[]))) Tryd.func35 (by kernel_rfl) (by kernel_rfl) (by kernel_rfl) (by kernel_rfl)
  have c2 := @run_callFunc_extern Tryd.prog 36 _ (ReflectliteValue.methodAny (ReflectliteValue.valueError "reflectlite.Value.Type" 0) (fun t _ _ _ => ReflectliteType.toType t)) Tryd.func36 (by kernel_rfl) (by kernel_rfl) (by kernel_rfl) (by kernel_rfl)
  have c3 := @run_callFunc_extern Tryd.prog 66 _ (ReflectliteType.abiMethod fun t => do pure (.int .u8 (← Rtype.kind t))) Tryd.func66 (by kernel_rfl) (by kernel_rfl) (by kernel_rfl) (by kernel_rfl)
  have c4 := @run_callFunc_extern Tryd.prog 37 _ (ReflectliteValue.method (ReflectliteValue.valueError "reflectlite.Value.IsNil" 0) ReflectliteValue.isNil) Tryd.func37 (by kernel_rfl) (by kernel_rfl) (by kernel_rfl) (by kernel_rfl)
  have c5 := @run_callFunc_extern Tryd.prog 83 _ (ReflectliteType.method ReflectliteType.elem) Tryd.func83 (by kernel_rfl) (by kernel_rfl) (by kernel_rfl) (by kernel_rfl)
  have c6 := @run_callFunc_extern Tryd.prog 84 _ (ReflectliteType.relation "Implements" ReflectliteType.implements_) Tryd.func84 (by kernel_rfl) (by kernel_rfl) (by kernel_rfl) (by kernel_rfl)
  have f1 := Tryd.valueOfF
  have f2 := Tryd.typeF
  have f3 := Tryd.kindPF
  have f4 := Tryd.kindF
  have f5 := Tryd.elemTF
  have f6 := Tryd.implementsF
  have m1 := Tryd.methodKind
  have m2 := Tryd.methodElem
  have m3 := Tryd.methodImplements
  have htl : t.block < w.heap.size := World.block_lt_of_cell? _ _ ht0
  have hgl : 0 < w.heap.size := cell_lt hg
  obtain ⟨W, hW⟩ : ∃ W, W = (w.alloc (.cells #[.pointer (some t)] 49)).alloc (.cells #[.pointer (some ⟨1, 49, none⟩), .pointer (some ⟨w.heap.size, 0, none⟩), .int .u64 150] 82) := ⟨_, rfl⟩
  have hsz : W.heap.size = w.heap.size + 1 + 1 := by rw [hW]; simp
  have n1 := Tryd.isNilF ⟨w.heap.size, 0, none⟩ t W (by rw [hW]; simp)
  have hg2 : W.cell? ⟨0, 0, none⟩ = some (.iface 91 (.agg #[.pointer (some ⟨1, 23, none⟩)])) := by
    rw [hW, World.cell?_alloc_lt _ _ ⟨0, 0, none⟩ (by simp), World.cell?_alloc_lt _ _ ⟨0, 0, none⟩ hgl]; exact hg
  have ha' : W.cell? ⟨w.heap.size, 0, none⟩ = some (.pointer (some t)) := by rw [hW]; simp
  have ht' : W.cell? t = some old := by rw [hW, World.cell?_alloc_lt _ _ t (by simp; omega), World.cell?_alloc_lt _ _ t htl]; exact ht0
  skip
  have hbW : Below w.heap.size w W := by rw [hW]; exact ((Below.refl _ _).alloc (Nat.le_refl _) _).alloc (by simp) _
  skip
  rw [hW] at n1 hg2
  have Ht0 : Hid (w.cell? t = some old) := ht0
  have HA : Hid (W.cell? ⟨w.heap.size, 0, none⟩ = some (.pointer (some t))) := ha'
  have HT : Hid (W.cell? t = some old) := ht'
  have HW : Hid (W = _) := hW
  have HS : Hid (W.heap.size = w.heap.size + 1 + 1) := hsz
  clear ha' ht' hW hsz hg ht0
  go_enter Tryd.func22, Tryd.ntmps22
  go_wp2_with fail
  refine (as_F_num c t ⟨w.heap.size, 0, none⟩ _).mono ?_
  all_goals first | (rw [← HW.out]; first | exact HA.out | exact HT.out) | skip
  rintro ev w' ⟨rfl, rfl⟩
  go_wp2
  go_ret
  exact ⟨rfl, (((Below.refl _ _).alloc (Nat.le_refl _) _).alloc (by simp) _).alloc (by simp; omega) _⟩

set_option maxHeartbeats 1000000 in
theorem As_E_num (w : World) (c : Int) (t : Addr) (old : Value) (l : List (ByteArray × ByteArray)) (v : Value) (hch : Chain w l (.num c) v) (hg : w.cell? ⟨0, 0, none⟩ = some (.iface 91 (.agg #[.pointer (some ⟨1, 23, none⟩)]))) (ht0 : w.cell? t = some old) (hf0 : w.frozen? t = false) :
    Calls Tryd.prog 22 #[v, .iface 50 (.pointer (some t))] w fun ev w' => ev = .returned (.bool true) ∧ Sets w t (.int .i64 c) w' := by
  have c1 := @run_callFunc_extern Tryd.prog 35 _ (fun args => ReflectliteValue.unpack (args.getD 0 (.tuple #[]))) Tryd.func35 (by kernel_rfl) (by kernel_rfl) (by kernel_rfl) (by kernel_rfl)
  have c2 := @run_callFunc_extern Tryd.prog 36 _ (ReflectliteValue.methodAny (ReflectliteValue.valueError "reflectlite.Value.Type" 0) (fun t _ _ _ => ReflectliteType.toType t)) Tryd.func36 (by kernel_rfl) (by kernel_rfl) (by kernel_rfl) (by kernel_rfl)
  have c3 := @run_callFunc_extern Tryd.prog 66 _ (ReflectliteType.abiMethod fun t => do pure (.int .u8 (← Rtype.kind t))) Tryd.func66 (by kernel_rfl) (by kernel_rfl) (by kernel_rfl) (by kernel_rfl)
  have c4 := @run_callFunc_extern Tryd.prog 37 _ (ReflectliteValue.method (ReflectliteValue.valueError "reflectlite.Value.IsNil" 0) ReflectliteValue.isNil) Tryd.func37 (by kernel_rfl) (by kernel_rfl) (by kernel_rfl) (by kernel_rfl)
  have c5 := @run_callFunc_extern Tryd.prog 83 _ (ReflectliteType.method ReflectliteType.elem) Tryd.func83 (by kernel_rfl) (by kernel_rfl) (by kernel_rfl) (by kernel_rfl)
  have c6 := @run_callFunc_extern Tryd.prog 84 _ (ReflectliteType.relation "Implements" ReflectliteType.implements_) Tryd.func84 (by kernel_rfl) (by kernel_rfl) (by kernel_rfl) (by kernel_rfl)
  have f1 := Tryd.valueOfE
  have f2 := Tryd.typeE
  have f3 := Tryd.kindPE
  have f4 := Tryd.kindE
  have f5 := Tryd.elemTE
  have f6 := Tryd.implementsE
  have m1 := Tryd.methodKind
  have m2 := Tryd.methodElem
  have m3 := Tryd.methodImplements
  have htl : t.block < w.heap.size := World.block_lt_of_cell? _ _ ht0
  have hgl : 0 < w.heap.size := cell_lt hg
  obtain ⟨W, hW⟩ : ∃ W, W = (w.alloc (.cells #[.pointer (some t)] 50)).alloc (.cells #[.pointer (some ⟨1, 50, none⟩), .pointer (some ⟨w.heap.size, 0, none⟩), .int .u64 150] 82) := ⟨_, rfl⟩
  have hsz : W.heap.size = w.heap.size + 1 + 1 := by rw [hW]; simp
  have n1 := Tryd.isNilE ⟨w.heap.size, 0, none⟩ t W (by rw [hW]; simp)
  have hg2 : W.cell? ⟨0, 0, none⟩ = some (.iface 91 (.agg #[.pointer (some ⟨1, 23, none⟩)])) := by
    rw [hW, World.cell?_alloc_lt _ _ ⟨0, 0, none⟩ (by simp), World.cell?_alloc_lt _ _ ⟨0, 0, none⟩ hgl]; exact hg
  have ha' : W.cell? ⟨w.heap.size, 0, none⟩ = some (.pointer (some t)) := by rw [hW]; simp
  have ht' : W.cell? t = some old := by rw [hW, World.cell?_alloc_lt _ _ t (by simp; omega), World.cell?_alloc_lt _ _ t htl]; exact ht0
  have hf' : W.frozen? t = false := by rw [hW, World.frozen?_alloc_old _ _ t (by simp; omega), World.frozen?_alloc_old _ _ t (Nat.ne_of_lt htl)]; exact hf0
  have hbW : Below w.heap.size w W := by rw [hW]; exact ((Below.refl _ _).alloc (Nat.le_refl _) _).alloc (by simp) _
  have hch2 : Chain W l (.num c) v := hch.below hbW
  rw [hW] at n1 hg2
  have Ht0 : Hid (w.cell? t = some old) := ht0
  have HA : Hid (W.cell? ⟨w.heap.size, 0, none⟩ = some (.pointer (some t))) := ha'
  have HT : Hid (W.cell? t = some old) := ht'
  have HW : Hid (W = _) := hW
  have HS : Hid (W.heap.size = w.heap.size + 1 + 1) := hsz
  clear ha' ht' hW hsz hg ht0
  rcases chain_top hch with rfl | ⟨b', rfl⟩
  all_goals
    have HC : Hid (Chain W l (.num c) _) := hch2
    clear hch hch2
    go_enter Tryd.func22, Tryd.ntmps22
    go_wp2_with fail
    refine (as_E_num c t ⟨w.heap.size, 0, none⟩ old _ l _ ?_ ?_ ?_ ?_).mono ?_
    all_goals first | (rw [← HW.out]; first | exact HA.out | exact HT.out | exact hf' | exact HC.out) | skip
    rintro ev w' ⟨rfl, rfl⟩
    go_wp2
    go_ret
    exact ⟨rfl, _, ((((Below.refl _ _).alloc (Nat.le_refl _) _).alloc (by simp) _).alloc (by simp; omega) _).alloc (by simp; omega) _, rfl⟩
end Go.Proofs.YtbidhljigeoooaaDoor
