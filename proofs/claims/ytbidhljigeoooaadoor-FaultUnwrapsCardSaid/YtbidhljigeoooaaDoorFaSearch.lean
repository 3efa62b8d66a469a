/-
  OWN WORK. fault.search over chains: each Fault is missed, or the first one is hit; then the base is asked.
-/
import Derived.Test.YtbidhljigeoooaaDoorFaWithin
import Derived.OwnWalk
import Derived.Laws.AppendOwn
import Derived.RangeFuncBox
namespace Go.Proofs.YtbidhljigeoooaaDoor
open Go.RowKit Go.Stop

theorem Tryd.infoStep : (Tryd.prog.info? 101).map (fun i => (i.zero, i.size, i.bytes)) = some (some (.agg #[.nilIface, .int .i64 0]), 2, 24) := by kernel_rfl

theorem chain_shape {w : World} {l : List (ByteArray × ByteArray)} {base : Base} {v : Value} (h : Chain w l base v) : v = .nilIface ∨ ∃ t x, v = .iface t x := by
  cases l with
  | nil =>
    have hv : v = base.val := h
    subst hv
    cases base
    · exact .inl rfl
    · exact .inr ⟨_, _, rfl⟩
    · exact .inr ⟨_, _, rfl⟩
  | cons q l =>
    obtain ⟨b, x, hv, _⟩ := h
    exact .inr ⟨_, _, hv⟩

/-- What a function that is asked leaves: it may turn block bf alone. -/
def Told (bf : Nat) (o0 o1 : Obj) (t : Bool) (w w' : World) : Prop := w.grownBy w' (some bf) ∧ w'.heap[bf]? = some (if t then o1 else o0)
theorem Told.miss {bf : Nat} {o0 o1 : Obj} {w w' : World} (h : w.heap[bf]? = some o0) (hb : Below w.heap.size w w') : Told bf o0 o1 false w w' :=
  ⟨⟨hb.os, hb.tape, hb.output, hb.size, fun k hk _ => hb.block k hk⟩, (hb.block bf (Array.getElem?_eq_some_iff.1 h).1).trans h⟩

/-- What a search is handed. -/
structure Asks (H : FuncId) (p : Value) (bf : Nat) (o0 o1 : Obj) (hf hb : Bool) (v : Value) (l : List (ByteArray × ByteArray)) (base : Base) : Prop where
  ent : ∀ (args : Array Value) (w : World), (callFunc H args).run Tryd.prog w = .ok (.enter H args) w
  fault : ∀ (b : Nat) (W : World), ErrT W → W.heap[bf]? = some o0 → (hf = true → v = .iface 28 (.pointer (some ⟨b, 0, none⟩))) →
    Calls Tryd.prog H #[.iface 28 (.pointer (some ⟨b, 0, none⟩)), p] W fun r W' => r = .returned (.bool hf) ∧ Told bf o0 o1 hf W W'
  base : base ≠ .none → (l = [] ∨ hf = false) → ∀ W, ErrT W → W.heap[bf]? = some o0 →
    Calls Tryd.prog H #[base.val, p] W fun r W' => r = .returned (.bool hb) ∧ Told bf o0 o1 hb W W'

def answer (hf hb : Bool) (l : List (ByteArray × ByteArray)) : Base → Bool
  | .none => if l = [] then false else hf
  | _ => if l = [] then hb else hf || hb

set_option maxHeartbeats 400000 in
theorem search1_any (H : FuncId) (p e : Value) (hp at_ : Nat) (w : World) (R : Ending → World → Prop) (hent : ∀ (args : Array Value) (w : World), (callFunc H args).run Tryd.prog w = .ok (.enter H args) w) (h1 : w.cell? ⟨hp, 0, none⟩ = some (.func (Fn.func H) #[] #[p])) (h2 : w.cell? ⟨at_, 0, none⟩ = some e) (he : ∃ t x, e = .iface t x) (t : Bool)
    (hcall : Calls Tryd.prog H #[e, p] w fun r w' => r = .returned (.bool t) ∧ R r w') :
    Calls Tryd.prog 44 #[.pointer (some ⟨hp, 0, none⟩), .pointer (some ⟨at_, 0, none⟩)] w fun r w' => r = .returned (.bool t) ∧ R r w' := by
  have HC := Lib.hid hcall
  obtain ⟨t0, x0, rfl⟩ := he
  clear hcall
  go_enter Tryd.func44, Tryd.ntmps44
  go_wp2_with fail
  refine HC.out.mono ?_
  rintro r w1 ⟨rfl, hR⟩
  have HR : Hid (R _ w1) := hR
  clear hR hent
  go_wp2
  go_ret
  exact ⟨rfl, HR.out⟩
end Go.Proofs.YtbidhljigeoooaaDoor
