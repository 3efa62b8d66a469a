/-
  OWN WORK. errors.Is over chains: the number within, or the error of errors.New within, is found; another number is not.
-/
import Derived.Test.YtbidhljigeoooaaDoorFaAsT
namespace Go.Proofs.YtbidhljigeoooaaDoor
open Go.RowKit Go.Extern.Stop Go.Stop Go.Extern

theorem Tryd.methodComparable (v : Value) (w : World) : (Go.method 247 91 v "Comparable").run Tryd.prog w = .ok (82, v) w := by kernel_rfl
theorem Tryd.compE (w : World) : ((ReflectliteType.method fun t => do Rtype.noPackHeld "Comparable" t; (fun a => Value.bool a.comparable) <$> typeInfo t) #[.agg #[.pointer (some ⟨1, 31, none⟩)]]).run Tryd.prog w = .ok (.bool true) w := by kernel_rfl
theorem Tryd.compO (w : World) : ((ReflectliteType.method fun t => do Rtype.noPackHeld "Comparable" t; (fun a => Value.bool a.comparable) <$> typeInfo t) #[.agg #[.pointer (some ⟨1, 53, none⟩)]]).run Tryd.prog w = .ok (.bool true) w := by kernel_rfl
theorem Tryd.eqlEE (a b : Int) (w : World) : (binOp .eql 23 (.iface 31 (.int .i64 a)) (.iface 31 (.int .i64 b))).run Tryd.prog w = .ok (.bool (a == b)) w := by kernel_rfl
theorem Tryd.eqlFE (v u : Value) (w : World) : (binOp .eql 23 (.iface 28 v) (.iface 31 u)).run Tryd.prog w = .ok (.bool false) w := run_eql_iface_types _ _ v u Tryd.underlying23 (by decide) w
theorem Tryd.eqlFO (v u : Value) (w : World) : (binOp .eql 23 (.iface 28 v) (.iface 53 u)).run Tryd.prog w = .ok (.bool false) w := run_eql_iface_types _ _ v u Tryd.underlying23 (by decide) w

theorem ret_bool {a b : Bool} (h : a = b) : Ending.returned (.bool b) = Ending.returned (.bool a) := by rw [h]

theorem Is_nil (a : Int) (w : World) : Calls Tryd.prog 13 #[.nilIface, .iface 31 (.int .i64 a)] w fun e w' => e = .returned (.bool false) ∧ w = w' := by
  have hn := run_eql_iface_nil_left (P := Tryd.prog) w 31 (.int .i64 a) Tryd.underlying23
  go_enter Tryd.func13, Tryd.ntmps13
  go_wp2
  go_ret
  exact ⟨rfl, rfl⟩

set_option maxHeartbeats 1000000 in
theorem is_num (c a : Int) (l : List (ByteArray × ByteArray)) (v : Value) (w : World) (hch : Chain w l (.num c) v) :
    Calls Tryd.prog 28 #[v, .iface 31 (.int .i64 a), .bool true] w fun ev w' => ev = .returned (.bool (c == a)) ∧ w = w' := by
  have g1 := Tryd.isFIs
  have g2 := Tryd.isFUw
  have g3 := Tryd.isEIs
  have g4 := Tryd.isEUw
  have g5 := Tryd.isEUl
  have m := Tryd.methodUnwrap
  have q1 := Tryd.eqlEE
  have q2 := Tryd.eqlFE
  go_enter Tryd.func28, Tryd.ntmps28
  go_wp2
  go_loopg [0] l.length (fun k p wr => w = wr ∧ ∃ l' : List (ByteArray × ByteArray), Chain wr l' (.num c) p ∧ l'.length = k)
  case atStart => exact ⟨rfl, l, hch, rfl⟩
  case round =>
    obtain ⟨rfl, l', hc', hk⟩ := hrel
    clear hch
    cases l' with
    | nil =>
      have hv : _ = Base.val (.num c) := hc'
      simp only [Base.val] at hv
      subst hv
      clear hc' hk
      rcases Bool.eq_false_or_eq_true (c == a) with hb | hb
      · have HB : Hid ((c == a) = true) := hb
        go_wp2
        go_ret
        exact ⟨ret_bool HB.out, rfl⟩
      · have HB : Hid ((c == a) = false) := hb
        go_wp2
        go_ret
        exact ⟨ret_bool HB.out, rfl⟩
    | cons q r =>
      obtain ⟨b, x, hv, hbk, hr⟩ := hc'
      have h2 := block_cell hbk 2 x rfl
      subst hv
      have H0 : Hid (r.length + 1 = gk) := hk
      clear hbk hk
      rcases chain_top hr with rfl | ⟨b', rfl⟩
      all_goals
        have H1 : Hid (Chain _ r (.num c) _) := hr
        clear hr
        go_wp2_with (go_at_call 15; refine (unwrap_any b _ _ h2).mono ?_; rintro e w' ⟨rfl, rfl⟩)
        go_roundg r.length
        case rel => exact ⟨rfl, r, H1.out, rfl⟩
        case measure => have := H0.out; omega

set_option maxHeartbeats 1000000 in
theorem Is_num (c a : Int) (l : List (ByteArray × ByteArray)) (v : Value) (w : World) (hch : Chain w l (.num c) v) :
    Calls Tryd.prog 13 #[v, .iface 31 (.int .i64 a)] w fun ev w' => ev = .returned (.bool (c == a)) ∧ w = w' := by
  have c1 := @run_callFunc_extern Tryd.prog 27 _ ReflectliteType.typeOf Tryd.func27 (by kernel_rfl) (by kernel_rfl) (by kernel_rfl) (by kernel_rfl)
  have c2 := @run_callFunc_extern Tryd.prog 82 _ (ReflectliteType.method fun t => do Rtype.noPackHeld "Comparable" t; pure (.bool (← typeInfo t).comparable)) Tryd.func82 (by kernel_rfl) (by kernel_rfl) (by kernel_rfl) (by kernel_rfl)
  have f1 := Tryd.typeOfE
  have f2 := Tryd.compE
  have m1 := Tryd.methodComparable
  rcases chain_top hch with rfl | ⟨b', rfl⟩
  all_goals
    have HC : Hid (Chain w l (.num c) _) := hch
    clear hch
    go_enter Tryd.func13, Tryd.ntmps13
    go_wp2_with (go_at_call 28; refine (is_num c a l _ _ HC.out).mono ?_; rintro e w' ⟨rfl, rfl⟩)
    go_ret
    exact ⟨rfl, rfl⟩
end Go.Proofs.YtbidhljigeoooaaDoor
