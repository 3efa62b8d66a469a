/-
  OWN WORK. errors.Is over a chain whose base is an error of errors.New, asked for that very error.
-/
import Derived.Test.YtbidhljigeoooaaDoorFaIs
namespace Go.Proofs.YtbidhljigeoooaaDoor
open Go.RowKit Go.Extern.Stop Go.Stop Go.Extern

theorem Tryd.isComp : (Tryd.prog.info? 53).map (·.comparable) = some true := by kernel_rfl
theorem Tryd.isSize : (Tryd.prog.info? 55).map (·.size) = some 1 := by kernel_rfl

theorem chain_topO {w : World} {r : List (ByteArray × ByteArray)} {b0 : Nat} {x : Value} (h : Chain w r (.other b0) x) :
    x = .iface 53 (.pointer (some ⟨b0, 0, none⟩)) ∨ ∃ b', x = .iface 28 (.pointer (some ⟨b', 0, none⟩)) := by
  cases r with
  | nil => exact Or.inl h
  | cons q r => obtain ⟨b, y, e, _⟩ := h; exact Or.inr ⟨b, e⟩

set_option maxHeartbeats 1000000 in
theorem is_other (b0 : Nat) (l : List (ByteArray × ByteArray)) (v : Value) (w : World) (hch : Chain w l (.other b0) v) :
    Calls Tryd.prog 28 #[v, .iface 53 (.pointer (some ⟨b0, 0, none⟩)), .bool true] w fun ev w' => ev = .returned (.bool true) ∧ w = w' := by
  obtain ⟨i, hi, hcmp⟩ := Option.map_eq_some_iff.1 Tryd.isComp
  obtain ⟨j, hj, hjs⟩ := Option.map_eq_some_iff.1 Tryd.isSize
  have q1 := run_eql_iface_ptr_same (P := Tryd.prog) w ⟨b0, 0, none⟩ Tryd.underlying23 Tryd.underlying53 hi hcmp hj
  have g1 := Tryd.isFIs
  have g2 := Tryd.isFUw
  have m := Tryd.methodUnwrap
  have q2 := Tryd.eqlFO
  clear hi hcmp hj hjs
  go_enter Tryd.func28, Tryd.ntmps28
  go_wp2
  go_loopg [0] l.length (fun k p wr => w = wr ∧ ∃ l' : List (ByteArray × ByteArray), Chain wr l' (.other b0) p ∧ l'.length = k)
  case atStart => exact ⟨rfl, l, hch, rfl⟩
  case round =>
    obtain ⟨rfl, l', hc', hk⟩ := hrel
    clear hch
    cases l' with
    | nil =>
      have hv : _ = Base.val (.other b0) := hc'
      simp only [Base.val] at hv
      subst hv
      clear hc' hk
      go_wp2
      go_ret
      exact ⟨rfl, rfl⟩
    | cons q r =>
      obtain ⟨b, x, hv, hbk, hr⟩ := hc'
      have h2 := block_cell hbk 2 x rfl
      subst hv
      have H0 : Hid (r.length + 1 = gk) := hk
      clear hbk hk
      rcases chain_topO hr with rfl | ⟨b', rfl⟩
      all_goals
        have H1 : Hid (Chain _ r (.other b0) _) := hr
        clear hr
        go_wp2_with (go_at_call 15; refine (unwrap_any b _ _ h2).mono ?_; rintro e w' ⟨rfl, rfl⟩)
        go_roundg r.length
        case rel => exact ⟨rfl, r, H1.out, rfl⟩
        case measure => have := H0.out; omega

set_option maxHeartbeats 1000000 in
theorem Is_other (b0 : Nat) (l : List (ByteArray × ByteArray)) (v : Value) (w : World) (hch : Chain w l (.other b0) v) :
    Calls Tryd.prog 13 #[v, .iface 53 (.pointer (some ⟨b0, 0, none⟩))] w fun ev w' => ev = .returned (.bool true) ∧ w = w' := by
  have c1 := @run_callFunc_extern Tryd.prog 27 _ ReflectliteType.typeOf Tryd.func27 (by kernel_rfl) (by kernel_rfl) (by kernel_rfl) (by kernel_rfl)
  have c2 := @run_callFunc_extern Tryd.prog 82 _ (ReflectliteType.method fun t => do Rtype.noPackHeld "Comparable" t; pure (.bool (← typeInfo t).comparable)) Tryd.func82 (by kernel_rfl) (by kernel_rfl) (by kernel_rfl) (by kernel_rfl)
  have f1 := Tryd.typeOfO
  have f2 := Tryd.compO
  have m1 := Tryd.methodComparable
  rcases chain_topO hch with rfl | ⟨b', rfl⟩
  all_goals
    have HC : Hid (Chain w l (.other b0) _) := hch
    clear hch
    go_enter Tryd.func13, Tryd.ntmps13
    go_wp2_with (go_at_call 28; refine (is_other b0 l _ _ HC.out).mono ?_; rintro e w' ⟨rfl, rfl⟩)
    go_ret
    exact ⟨rfl, rfl⟩
end Go.Proofs.YtbidhljigeoooaaDoor
