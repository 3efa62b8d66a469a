/-
  OWN WORK. errors.As over chains that hold none of what is looked for.
-/
import Derived.Test.YtklljdkcgkcdjaaDoorFaAsT
import Derived.Test.YtklljdkcgkcdjaaDoorFaIsO
namespace Go.Proofs.YtklljdkcgkcdjaaDoor
open Go.RowKit Go.Extern.Stop Go.Stop Go.Extern

set_option maxHeartbeats 400000 in
theorem as_F_other (b0 : Nat) (t a : Addr) (w : World) :
    Calls Tryd.prog 39 #[.iface 53 (.pointer (some ⟨b0, 0, none⟩)), .iface 49 (.pointer (some t)), .agg #[.pointer (some ⟨1, 49, none⟩), .pointer (some a), .int .u64 150], .iface 92 (.agg #[.pointer (some ⟨1, 28, none⟩)])] w
      fun ev w' => ev = .returned (.bool false) ∧ w' = w.alloc (.cells #[.pointer (some ⟨1, 49, none⟩), .pointer (some a), .int .u64 150] 78) := by
  have c1 := @run_callFunc_extern Tryd.prog 29 _ ReflectliteType.typeOf Tryd.func29 (by kernel_rfl) (by kernel_rfl) (by kernel_rfl) (by kernel_rfl)
  have c2 := @run_callFunc_extern Tryd.prog 71 _ (ReflectliteType.relation "AssignableTo" ReflectliteType.assignableTo) Tryd.func71 (by kernel_rfl) (by kernel_rfl) (by kernel_rfl) (by kernel_rfl)
  have f1 := Tryd.typeOfO
  have f2 := Tryd.asgOF
  have f4 := Tryd.methodAssignableTo
  have g1 := Tryd.isOAs
  have g2 := Tryd.isOUw
  have g3 := Tryd.isOUl
  go_enter Tryd.func39, Tryd.ntmps39
  go_wp2
  refine wp_loop_rounds 1 ?_
  rw [rounds_succ]
  go_wp2
  go_ret
  exact ⟨rfl, rfl⟩

set_option maxHeartbeats 1000000 in
theorem As_F_other (w : World) (b0 : Nat) (t : Addr) (old : Value) (hg : w.cell? ⟨0, 0, none⟩ = some (.iface 92 (.agg #[.pointer (some ⟨1, 23, none⟩)]))) (ht0 : w.cell? t = some old) :
    Calls Tryd.prog 22 #[.iface 53 (.pointer (some ⟨b0, 0, none⟩)), .iface 49 (.pointer (some t))] w fun ev w' => ev = .returned (.bool false) ∧ Below w.heap.size w w' := by
  have c1 := @run_callFunc_extern Tryd.prog 36 _ (fun args => ReflectliteValue.unpack (args.getD 0 (.tuple #[]))) Tryd.func36 (by kernel_rfl) (by kernel_rfl) (by kernel_rfl) (by kernel_rfl)
  have c2 := @run_callFunc_extern Tryd.prog 37 _ (ReflectliteValue.methodAny (ReflectliteValue.valueError "reflectlite.Value.Type" 0) (fun t _ _ _ => ReflectliteType.toType t)) Tryd.func37 (by kernel_rfl) (by kernel_rfl) (by kernel_rfl) (by kernel_rfl)
  have c3 := @run_callFunc_extern Tryd.prog 62 _ (ReflectliteType.abiMethod fun t => do pure (.int .u8 (← Rtype.kind t))) Tryd.func62 (by kernel_rfl) (by kernel_rfl) (by kernel_rfl) (by kernel_rfl)
  have c4 := @run_callFunc_extern Tryd.prog 38 _ (ReflectliteValue.method (ReflectliteValue.valueError "reflectlite.Value.IsNil" 0) ReflectliteValue.isNil) Tryd.func38 (by kernel_rfl) (by kernel_rfl) (by kernel_rfl) (by kernel_rfl)
  have c5 := @run_callFunc_extern Tryd.prog 73 _ (ReflectliteType.method ReflectliteType.elem) Tryd.func73 (by kernel_rfl) (by kernel_rfl) (by kernel_rfl) (by kernel_rfl)
  have c6 := @run_callFunc_extern Tryd.prog 74 _ (ReflectliteType.relation "Implements" ReflectliteType.implements_) Tryd.func74 (by kernel_rfl) (by kernel_rfl) (by kernel_rfl) (by kernel_rfl)
  have f1 := Tryd.valueOfF
  have f2 := Tryd.typeF
  have f3 := Tryd.kindPF
  have f4 := Tryd.kindF
  have f5 := Tryd.elemTF
  have f6 := Tryd.implementsF
  have m1 := Tryd.methodKind
  have m2 := Tryd.methodElem
  have m3 := Tryd.methodImplements
  have htl : t.block < w.heap.size := World.block_lt_of_cell? _ _ ht0
  have hgl : 0 < w.heap.size := cell_lt hg
  obtain ⟨W, hW⟩ : ∃ W, W = (w.alloc (.cells #[.pointer (some t)] 49)).alloc (.cells #[.pointer (some ⟨1, 49, none⟩), .pointer (some ⟨w.heap.size, 0, none⟩), .int .u64 150] 78) := ⟨_, rfl⟩
  have hsz : W.heap.size = w.heap.size + 1 + 1 := by rw [hW]; simp
  have n1 := Tryd.isNilF ⟨w.heap.size, 0, none⟩ t W (by rw [hW]; simp)
  have hg2 : W.cell? ⟨0, 0, none⟩ = some (.iface 92 (.agg #[.pointer (some ⟨1, 23, none⟩)])) := by
    rw [hW, World.cell?_alloc_lt _ _ ⟨0, 0, none⟩ (by simp), World.cell?_alloc_lt _ _ ⟨0, 0, none⟩ hgl]; exact hg
  have ha' : W.cell? ⟨w.heap.size, 0, none⟩ = some (.pointer (some t)) := by rw [hW]; simp
  have ht' : W.cell? t = some old := by rw [hW, World.cell?_alloc_lt _ _ t (by simp; omega), World.cell?_alloc_lt _ _ t htl]; exact ht0
  skip
  have hbW : Below w.heap.size w W := by rw [hW]; exact ((Below.refl _ _).alloc (Nat.le_refl _) _).alloc (by simp) _
  skip
  rw [hW] at n1 hg2
  have Ht0 : Hid (w.cell? t = some old) := ht0
  have HA : Hid (W.cell? ⟨w.heap.size, 0, none⟩ = some (.pointer (some t))) := ha'
  have HT : Hid (W.cell? t = some old) := ht'
  have HW : Hid (W = _) := hW
  have HS : Hid (W.heap.size = w.heap.size + 1 + 1) := hsz
  clear ha' ht' hW hsz hg ht0
  go_enter Tryd.func22, Tryd.ntmps22
  go_wp2_with fail
  refine (as_F_other b0 t ⟨w.heap.size, 0, none⟩ _).mono ?_
  all_goals first | (rw [← HW.out]; first | exact HA.out | exact HT.out) | skip
  rintro ev w' ⟨rfl, rfl⟩
  go_wp2
  go_ret
  exact ⟨rfl, (((Below.refl _ _).alloc (Nat.le_refl _) _).alloc (by simp) _).alloc (by simp; omega) _⟩

set_option maxHeartbeats 1000000 in
theorem as_E_other (b0 : Nat) (t a : Addr) (w : World) (l : List (ByteArray × ByteArray)) (v : Value) (hch : Chain w l (.other b0) v) :
    Calls Tryd.prog 39 #[v, .iface 50 (.pointer (some t)), .agg #[.pointer (some ⟨1, 50, none⟩), .pointer (some a), .int .u64 150], .iface 92 (.agg #[.pointer (some ⟨1, 31, none⟩)])] w
      fun ev w' => ev = .returned (.bool false) ∧ w' = w.alloc (.cells #[.pointer (some ⟨1, 50, none⟩), .pointer (some a), .int .u64 150] 78) := by
  have c1 := @run_callFunc_extern Tryd.prog 29 _ ReflectliteType.typeOf Tryd.func29 (by kernel_rfl) (by kernel_rfl) (by kernel_rfl) (by kernel_rfl)
  have c2 := @run_callFunc_extern Tryd.prog 71 _ (ReflectliteType.relation "AssignableTo" ReflectliteType.assignableTo) Tryd.func71 (by kernel_rfl) (by kernel_rfl) (by kernel_rfl) (by kernel_rfl)
  have f1' := Tryd.typeOfF
  have f2' := Tryd.asgFE
  have f4 := Tryd.methodAssignableTo
  have g1 := Tryd.isFAs
  have g2 := Tryd.isFUw
  have g4 := Tryd.methodUnwrap
  have f1 := Tryd.typeOfO
  have f2 := Tryd.asgOE
  have g5 := Tryd.isOAs
  have g6 := Tryd.isOUw
  have g7 := Tryd.isOUl
  have hch1 := hch.alloc (o := .cells #[.pointer (some ⟨1, 50, none⟩), .pointer (some a), .int .u64 150] 78)
  clear hch
  go_enter Tryd.func39, Tryd.ntmps39
  go_wp2
  go_loopg [0] l.length (fun k p wr => w.alloc (.cells #[.pointer (some ⟨1, 50, none⟩), .pointer (some a), .int .u64 150] 78) = wr ∧ ∃ l' : List (ByteArray × ByteArray), Chain wr l' (.other b0) p ∧ l'.length = k)
  case atStart => exact ⟨rfl, l, hch1, rfl⟩
  case round =>
    obtain ⟨rfl, l', hc', hk⟩ := hrel
    clear hch1
    cases l' with
    | nil =>
      have hv : _ = Base.val (.other b0) := hc'
      simp only [Base.val] at hv
      subst hv
      clear hc' hk
      go_wp2
      go_ret
      exact ⟨rfl, rfl⟩
    | cons q r =>
      obtain ⟨b, x, hv, hbk, hr⟩ := hc'
      have h2 := block_cell hbk 2 x rfl
      subst hv
      have H0 : Hid (r.length + 1 = gk) := hk
      clear hbk hk
      rcases chain_topO hr with rfl | ⟨b', rfl⟩
      all_goals
        have H1 : Hid (Chain _ r (.other b0) _) := hr
        clear hr
        go_wp2_with (go_at_call 15; refine (unwrap_any b _ _ h2).mono ?_; rintro e w' ⟨rfl, rfl⟩)
        go_roundg r.length
        case rel => exact ⟨rfl, r, H1.out, rfl⟩
        case measure => have := H0.out; omega

set_option maxHeartbeats 1000000 in
theorem As_E_other (w : World) (b0 : Nat) (t : Addr) (old : Value) (l : List (ByteArray × ByteArray)) (v : Value) (hch : Chain w l (.other b0) v) (hg : w.cell? ⟨0, 0, none⟩ = some (.iface 92 (.agg #[.pointer (some ⟨1, 23, none⟩)]))) (ht0 : w.cell? t = some old) :
    Calls Tryd.prog 22 #[v, .iface 50 (.pointer (some t))] w fun ev w' => ev = .returned (.bool false) ∧ Below w.heap.size w w' := by
  have c1 := @run_callFunc_extern Tryd.prog 36 _ (fun args => ReflectliteValue.unpack (args.getD 0 (.tuple #[]))) Tryd.func36 (by kernel_rfl) (by kernel_rfl) (by kernel_rfl) (by kernel_rfl)
  have c2 := @run_callFunc_extern Tryd.prog 37 _ (ReflectliteValue.methodAny (ReflectliteValue.valueError "reflectlite.Value.Type" 0) (fun t _ _ _ => ReflectliteType.toType t)) Tryd.func37 (by kernel_rfl) (by kernel_rfl) (by kernel_rfl) (by kernel_rfl)
  have c3 := @run_callFunc_extern Tryd.prog 62 _ (ReflectliteType.abiMethod fun t => do pure (.int .u8 (← Rtype.kind t))) Tryd.func62 (by kernel_rfl) (by kernel_rfl) (by kernel_rfl) (by kernel_rfl)
  have c4 := @run_callFunc_extern Tryd.prog 38 _ (ReflectliteValue.method (ReflectliteValue.valueError "reflectlite.Value.IsNil" 0) ReflectliteValue.isNil) Tryd.func38 (by kernel_rfl) (by kernel_rfl) (by kernel_rfl) (by kernel_rfl)
  have c5 := @run_callFunc_extern Tryd.prog 73 _ (ReflectliteType.method ReflectliteType.elem) Tryd.func73 (by kernel_rfl) (by kernel_rfl) (by kernel_rfl) (by kernel_rfl)
  have c6 := @run_callFunc_extern Tryd.prog 74 _ (ReflectliteType.relation "Implements" ReflectliteType.implements_) Tryd.func74 (by kernel_rfl) (by kernel_rfl) (by kernel_rfl) (by kernel_rfl)
  have f1 := Tryd.valueOfE
  have f2 := Tryd.typeE
  have f3 := Tryd.kindPE
  have f4 := Tryd.kindE
  have f5 := Tryd.elemTE
  have f6 := Tryd.implementsE
  have m1 := Tryd.methodKind
  have m2 := Tryd.methodElem
  have m3 := Tryd.methodImplements
  have htl : t.block < w.heap.size := World.block_lt_of_cell? _ _ ht0
  have hgl : 0 < w.heap.size := cell_lt hg
  obtain ⟨W, hW⟩ : ∃ W, W = (w.alloc (.cells #[.pointer (some t)] 50)).alloc (.cells #[.pointer (some ⟨1, 50, none⟩), .pointer (some ⟨w.heap.size, 0, none⟩), .int .u64 150] 78) := ⟨_, rfl⟩
  have hsz : W.heap.size = w.heap.size + 1 + 1 := by rw [hW]; simp
  have n1 := Tryd.isNilE ⟨w.heap.size, 0, none⟩ t W (by rw [hW]; simp)
  have hg2 : W.cell? ⟨0, 0, none⟩ = some (.iface 92 (.agg #[.pointer (some ⟨1, 23, none⟩)])) := by
    rw [hW, World.cell?_alloc_lt _ _ ⟨0, 0, none⟩ (by simp), World.cell?_alloc_lt _ _ ⟨0, 0, none⟩ hgl]; exact hg
  have ha' : W.cell? ⟨w.heap.size, 0, none⟩ = some (.pointer (some t)) := by rw [hW]; simp
  have ht' : W.cell? t = some old := by rw [hW, World.cell?_alloc_lt _ _ t (by simp; omega), World.cell?_alloc_lt _ _ t htl]; exact ht0
  have hbW : Below w.heap.size w W := by rw [hW]; exact ((Below.refl _ _).alloc (Nat.le_refl _) _).alloc (by simp) _
  have hch2 : Chain W l (.other b0) v := hch.below hbW
  rw [hW] at n1 hg2
  have Ht0 : Hid (w.cell? t = some old) := ht0
  have HA : Hid (W.cell? ⟨w.heap.size, 0, none⟩ = some (.pointer (some t))) := ha'
  have HT : Hid (W.cell? t = some old) := ht'
  have HW : Hid (W = _) := hW
  have HS : Hid (W.heap.size = w.heap.size + 1 + 1) := hsz
  clear ha' ht' hW hsz hg ht0
  rcases chain_topO hch with rfl | ⟨b', rfl⟩
  all_goals
    have HC : Hid (Chain W l (.other b0) _) := hch2
    clear hch hch2
    go_enter Tryd.func22, Tryd.ntmps22
    go_wp2_with fail
    refine (as_E_other b0 t ⟨w.heap.size, 0, none⟩ _ l _ ?_).mono ?_
    · rw [← HW.out]; exact HC.out
    rintro ev w' ⟨rfl, rfl⟩
    go_wp2
    go_ret
    exact ⟨rfl, (((Below.refl _ _).alloc (Nat.le_refl _) _).alloc (by simp) _).alloc (by simp; omega) _⟩

theorem chain_topN {w : World} {r : List (ByteArray × ByteArray)} {x : Value} (h : Chain w r .none x) :
    (r = [] ∧ x = .nilIface) ∨ ∃ b', x = .iface 28 (.pointer (some ⟨b', 0, none⟩)) ∧ r ≠ [] := by
  cases r with
  | nil => exact Or.inl ⟨rfl, h⟩
  | cons q r => obtain ⟨b, y, e, _⟩ := h; exact Or.inr ⟨b, e, by simp⟩

set_option maxHeartbeats 1000000 in
theorem as_E_none (t a : Addr) (w : World) (l : List (ByteArray × ByteArray)) (v : Value) (hch : Chain w l .none v) (hne : l ≠ []) :
    Calls Tryd.prog 39 #[v, .iface 50 (.pointer (some t)), .agg #[.pointer (some ⟨1, 50, none⟩), .pointer (some a), .int .u64 150], .iface 92 (.agg #[.pointer (some ⟨1, 31, none⟩)])] w
      fun ev w' => ev = .returned (.bool false) ∧ w' = w.alloc (.cells #[.pointer (some ⟨1, 50, none⟩), .pointer (some a), .int .u64 150] 78) := by
  have c1 := @run_callFunc_extern Tryd.prog 29 _ ReflectliteType.typeOf Tryd.func29 (by kernel_rfl) (by kernel_rfl) (by kernel_rfl) (by kernel_rfl)
  have c2 := @run_callFunc_extern Tryd.prog 71 _ (ReflectliteType.relation "AssignableTo" ReflectliteType.assignableTo) Tryd.func71 (by kernel_rfl) (by kernel_rfl) (by kernel_rfl) (by kernel_rfl)
  have f1' := Tryd.typeOfF
  have f2' := Tryd.asgFE
  have f4 := Tryd.methodAssignableTo
  have g1 := Tryd.isFAs
  have g2 := Tryd.isFUw
  have g4 := Tryd.methodUnwrap
  have hch1 := hch.alloc (o := .cells #[.pointer (some ⟨1, 50, none⟩), .pointer (some a), .int .u64 150] 78)
  clear hch
  go_enter Tryd.func39, Tryd.ntmps39
  go_wp2
  go_loopg [0] l.length (fun k p wr => w.alloc (.cells #[.pointer (some ⟨1, 50, none⟩), .pointer (some a), .int .u64 150] 78) = wr ∧ ∃ l' : List (ByteArray × ByteArray), Chain wr l' .none p ∧ l'.length = k ∧ l' ≠ [])
  case atStart => exact ⟨rfl, l, hch1, rfl, hne⟩
  case round =>
    obtain ⟨rfl, l', hc', hk, hn⟩ := hrel
    clear hch1
    cases l' with
    | nil => exact absurd rfl hn
    | cons q r =>
      obtain ⟨b, x, hv, hbk, hr⟩ := hc'
      have h2 := block_cell hbk 2 x rfl
      subst hv
      have H0 : Hid (r.length + 1 = gk) := hk
      clear hbk hk hn
      rcases chain_topN hr with ⟨rfl, rfl⟩ | ⟨b', rfl, hrn⟩
      · clear hr
        go_wp2_with (go_at_call 15; refine (unwrap_any b _ _ h2).mono ?_; rintro e w' ⟨rfl, rfl⟩)
        go_ret
        exact ⟨rfl, rfl⟩
      · have H1 : Hid (Chain _ r .none _) := hr
        have H2 : Hid (r ≠ []) := hrn
        clear hr hrn
        go_wp2_with (go_at_call 15; refine (unwrap_any b _ _ h2).mono ?_; rintro e w' ⟨rfl, rfl⟩)
        go_roundg r.length
        case rel => exact ⟨rfl, r, H1.out, rfl, H2.out⟩
        case measure => have := H0.out; omega

set_option maxHeartbeats 1000000 in
theorem As_E_none (w : World) (t : Addr) (old : Value) (l : List (ByteArray × ByteArray)) (v : Value) (hch : Chain w l .none v) (hne : l ≠ []) (hg : w.cell? ⟨0, 0, none⟩ = some (.iface 92 (.agg #[.pointer (some ⟨1, 23, none⟩)]))) (ht0 : w.cell? t = some old) :
    Calls Tryd.prog 22 #[v, .iface 50 (.pointer (some t))] w fun ev w' => ev = .returned (.bool false) ∧ Below w.heap.size w w' := by
  have c1 := @run_callFunc_extern Tryd.prog 36 _ (fun args => ReflectliteValue.unpack (args.getD 0 (.tuple #[]))) Tryd.func36 (by kernel_rfl) (by kernel_rfl) (by kernel_rfl) (by kernel_rfl)
  have c2 := @run_callFunc_extern Tryd.prog 37 _ (ReflectliteValue.methodAny (ReflectliteValue.valueError "reflectlite.Value.Type" 0) (fun t _ _ _ => ReflectliteType.toType t)) Tryd.func37 (by kernel_rfl) (by kernel_rfl) (by kernel_rfl) (by kernel_rfl)
  have c3 := @run_callFunc_extern Tryd.prog 62 _ (ReflectliteType.abiMethod fun t => do pure (.int .u8 (← Rtype.kind t))) Tryd.func62 (by kernel_rfl) (by kernel_rfl) (by kernel_rfl) (by kernel_rfl)
  have c4 := @run_callFunc_extern Tryd.prog 38 _ (ReflectliteValue.method (ReflectliteValue.valueError "reflectlite.Value.IsNil" 0) ReflectliteValue.isNil) Tryd.func38 (by kernel_rfl) (by kernel_rfl) (by kernel_rfl) (by kernel_rfl)
  have c5 := @run_callFunc_extern Tryd.prog 73 _ (ReflectliteType.method ReflectliteType.elem) Tryd.func73 (by kernel_rfl) (by kernel_rfl) (by kernel_rfl) (by kernel_rfl)
  have c6 := @run_callFunc_extern Tryd.prog 74 _ (ReflectliteType.relation "Implements" ReflectliteType.implements_) Tryd.func74 (by kernel_rfl) (by kernel_rfl) (by kernel_rfl) (by kernel_rfl)
  have f1 := Tryd.valueOfE
  have f2 := Tryd.typeE
  have f3 := Tryd.kindPE
  have f4 := Tryd.kindE
  have f5 := Tryd.elemTE
  have f6 := Tryd.implementsE
  have m1 := Tryd.methodKind
  have m2 := Tryd.methodElem
  have m3 := Tryd.methodImplements
  have htl : t.block < w.heap.size := World.block_lt_of_cell? _ _ ht0
  have hgl : 0 < w.heap.size := cell_lt hg
  obtain ⟨W, hW⟩ : ∃ W, W = (w.alloc (.cells #[.pointer (some t)] 50)).alloc (.cells #[.pointer (some ⟨1, 50, none⟩), .pointer (some ⟨w.heap.size, 0, none⟩), .int .u64 150] 78) := ⟨_, rfl⟩
  have hsz : W.heap.size = w.heap.size + 1 + 1 := by rw [hW]; simp
  have n1 := Tryd.isNilE ⟨w.heap.size, 0, none⟩ t W (by rw [hW]; simp)
  have hg2 : W.cell? ⟨0, 0, none⟩ = some (.iface 92 (.agg #[.pointer (some ⟨1, 23, none⟩)])) := by
    rw [hW, World.cell?_alloc_lt _ _ ⟨0, 0, none⟩ (by simp), World.cell?_alloc_lt _ _ ⟨0, 0, none⟩ hgl]; exact hg
  have ha' : W.cell? ⟨w.heap.size, 0, none⟩ = some (.pointer (some t)) := by rw [hW]; simp
  have ht' : W.cell? t = some old := by rw [hW, World.cell?_alloc_lt _ _ t (by simp; omega), World.cell?_alloc_lt _ _ t htl]; exact ht0
  have hbW : Below w.heap.size w W := by rw [hW]; exact ((Below.refl _ _).alloc (Nat.le_refl _) _).alloc (by simp) _
  have hch2 : Chain W l .none v := hch.below hbW
  rw [hW] at n1 hg2
  have Ht0 : Hid (w.cell? t = some old) := ht0
  have HA : Hid (W.cell? ⟨w.heap.size, 0, none⟩ = some (.pointer (some t))) := ha'
  have HT : Hid (W.cell? t = some old) := ht'
  have HW : Hid (W = _) := hW
  have HS : Hid (W.heap.size = w.heap.size + 1 + 1) := hsz
  clear ha' ht' hW hsz hg ht0
  have HNE : Hid (l ≠ []) := hne
  rcases chain_topN hch with ⟨h0, _⟩ | ⟨b', rfl, _⟩
  · exact absurd h0 hne
  · skip
    clear hne
    have HC : Hid (Chain W l .none _) := hch2
    clear hch hch2
    go_enter Tryd.func22, Tryd.ntmps22
    go_wp2_with fail
    refine (as_E_none t ⟨w.heap.size, 0, none⟩ _ l _ ?_ HNE.out).mono ?_
    · rw [← HW.out]; exact HC.out
    rintro ev w' ⟨rfl, rfl⟩
    go_wp2
    go_ret
    exact ⟨rfl, (((Below.refl _ _).alloc (Nat.le_refl _) _).alloc (by simp) _).alloc (by simp; omega) _⟩

end Go.Proofs.YtklljdkcgkcdjaaDoor
