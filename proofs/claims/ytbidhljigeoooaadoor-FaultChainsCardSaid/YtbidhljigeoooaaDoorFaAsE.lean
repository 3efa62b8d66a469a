/-
  OWN WORK. errors.As with a target of the numbers' type, over chains: the Faults are unwrapped, the number within is found.
-/
import Derived.Test.YtbidhljigeoooaaDoorFaAs
namespace Go.Proofs.YtbidhljigeoooaaDoor
open Go.RowKit Go.Extern.Stop Go.Stop Go.Extern

theorem Tryd.methodUnwrap (h : Addr) (w : World) : (Go.method 247 28 (.pointer (some h)) "Unwrap").run Tryd.prog w = .ok (15, .pointer (some h)) w := by kernel_rfl

theorem unwrap_any (b : Nat) (x : Value) (w : World) (hx : w.cell? ⟨b, 2, none⟩ = some x) :
    Calls Tryd.prog 15 #[.pointer (some ⟨b, 0, none⟩)] w fun e w' => e = .returned x ∧ w = w' := by
  go_enter Tryd.func15, Tryd.ntmps15
  go_wp2
  go_ret
  exact ⟨rfl, rfl⟩

theorem chain_top {w : World} {r : List (ByteArray × ByteArray)} {c : Int} {x : Value} (h : Chain w r (.num c) x) :
    x = .iface 31 (.int .i64 c) ∨ ∃ b', x = .iface 28 (.pointer (some ⟨b', 0, none⟩)) := by
  cases r with
  | nil => exact Or.inl h
  | cons q r => obtain ⟨b, y, e, _⟩ := h; exact Or.inr ⟨b, e⟩

set_option maxHeartbeats 1000000 in
theorem as_E_num (c : Int) (t a : Addr) (old : Value) (w : World) (l : List (ByteArray × ByteArray)) (v : Value) (hch : Chain w l (.num c) v)
    (ha : w.cell? a = some (.pointer (some t))) (ht0 : w.cell? t = some old) (hf0 : w.frozen? t = false) :
    Calls Tryd.prog 38 #[v, .iface 50 (.pointer (some t)), .agg #[.pointer (some ⟨1, 50, none⟩), .pointer (some a), .int .u64 150], .iface 91 (.agg #[.pointer (some ⟨1, 31, none⟩)])] w
      fun ev w' => ev = .returned (.bool true) ∧ w' = ((w.alloc (.cells #[.pointer (some ⟨1, 50, none⟩), .pointer (some a), .int .u64 150] 82)).alloc (.cells #[.int .i64 c] 31)).setCell t (.int .i64 c) := by
  have c1 := @run_callFunc_extern Tryd.prog 27 _ ReflectliteType.typeOf Tryd.func27 (by kernel_rfl) (by kernel_rfl) (by kernel_rfl) (by kernel_rfl)
  have c2 := @run_callFunc_extern Tryd.prog 81 _ (ReflectliteType.relation "AssignableTo" ReflectliteType.assignableTo) Tryd.func81 (by kernel_rfl) (by kernel_rfl) (by kernel_rfl) (by kernel_rfl)
  have c3 := @run_callFunc_extern Tryd.prog 47 _ (ReflectliteValue.method (ReflectliteValue.valueError "reflectlite.Value.Elem" 0) ReflectliteValue.elem) Tryd.func47 (by kernel_rfl) (by kernel_rfl) (by kernel_rfl) (by kernel_rfl)
  have c4 := @run_callFunc_extern Tryd.prog 35 _ (fun args => ReflectliteValue.unpack (args.getD 0 (.tuple #[]))) Tryd.func35 (by kernel_rfl) (by kernel_rfl) (by kernel_rfl) (by kernel_rfl)
  have c5 := @run_callFunc_extern Tryd.prog 48 _ ReflectliteValue.set Tryd.func48 (by kernel_rfl) (by kernel_rfl) (by kernel_rfl) (by kernel_rfl)
  have f1 := Tryd.typeOfE
  have f1' := Tryd.typeOfF
  have f2 := Tryd.asgEE
  have f2' := Tryd.asgFE
  have f3 := Tryd.valueOfSE
  have f4 := Tryd.methodAssignableTo
  have g1 := Tryd.isFAs
  have g2 := Tryd.isFUw
  have g4 := Tryd.methodUnwrap
  have htl : t.block < w.heap.size := World.block_lt_of_cell? _ _ ht0
  have hal : a.block < w.heap.size := World.block_lt_of_cell? _ _ ha
  have el := Tryd.elemVE a t (w.alloc (.cells #[.pointer (some ⟨1, 50, none⟩), .pointer (some a), .int .u64 150] 82)) (by rw [World.cell?_alloc_lt _ _ a hal]; exact ha)
  have st := Tryd.setE t ⟨w.heap.size + 1, 0, none⟩ c old ((w.alloc (.cells #[.pointer (some ⟨1, 50, none⟩), .pointer (some a), .int .u64 150] 82)).alloc (.cells #[.int .i64 c] 31)) (by simp)
    (by rw [World.cell?_alloc_lt _ _ t (by simp; omega), World.cell?_alloc_lt _ _ t htl]; exact ht0)
    (by rw [World.frozen?_alloc_old _ _ t (by simp; omega), World.frozen?_alloc_old _ _ t (Nat.ne_of_lt htl)]; exact hf0)
  clear ha ht0 hf0
  have hch1 := hch.alloc (o := .cells #[.pointer (some ⟨1, 50, none⟩), .pointer (some a), .int .u64 150] 82)
  clear hch
  go_enter Tryd.func38, Tryd.ntmps38
  go_wp2
  go_loopg [0] l.length (fun k p wr => w.alloc (.cells #[.pointer (some ⟨1, 50, none⟩), .pointer (some a), .int .u64 150] 82) = wr ∧ ∃ l' : List (ByteArray × ByteArray), Chain wr l' (.num c) p ∧ l'.length = k)
  case atStart => exact ⟨rfl, l, hch1, rfl⟩
  case round =>
    obtain ⟨rfl, l', hc', hk⟩ := hrel
    clear hch1
    cases l' with
    | nil =>
      have hv : _ = Base.val (.num c) := hc'
      simp only [Base.val] at hv
      subst hv
      clear hc' hk
      go_wp2
      go_ret
      exact ⟨rfl, rfl⟩
    | cons q r =>
      obtain ⟨b, x, hv, hbk, hr⟩ := hc'
      have h2 := block_cell hbk 2 x rfl
      subst hv
      have H0 : Hid (r.length + 1 = gk) := hk
      clear hbk hk
      rcases chain_top hr with rfl | ⟨b', rfl⟩
      all_goals
        have H1 : Hid (Chain _ r (.num c) _) := hr
        clear hr
        go_wp2_with (go_at_call 15; refine (unwrap_any b _ _ h2).mono ?_; rintro e w' ⟨rfl, rfl⟩)
        go_roundg r.length
        case rel => exact ⟨rfl, r, H1.out, rfl⟩
        case measure => have := H0.out; omega
end Go.Proofs.YtbidhljigeoooaaDoor
