/-
  OWN WORK. (*Fault).Error by its contract: a chain's text.
-/
import Derived.Test.YtbidhljigeoooaaDoorFaParts
import Derived.Deep.LoopGhost
namespace Go.Proofs.YtbidhljigeoooaaDoor
open Go.RowKit

theorem chain_length {w : World} {base base' : Base} : ∀ {l l' : List (ByteArray × ByteArray)} {v : Value}, Chain w l base v → Chain w l' base' v → l.length = l'.length
  | [], [], _, _, _ => rfl
  | [], _ :: _, _, h, ⟨b, x, e, _⟩ => by
    have h' : _ = base.val := h
    rw [e] at h'
    cases base <;> simp [Base.val] at h'
  | _ :: _, [], _, ⟨b, x, e, _⟩, h => by
    have h' : _ = base'.val := h
    rw [e] at h'
    cases base' <;> simp [Base.val] at h'
  | _ :: _, _ :: _, _, ⟨b, x, e, hb, hr⟩, ⟨b', x', e', hb', hr'⟩ => by
    rw [e] at e'
    simp only [Value.iface.injEq, Value.pointer.injEq, Option.some.injEq, Addr.mk.injEq, true_and, and_true] at e'
    subst e'
    rw [hb] at hb'
    simp only [Option.some.injEq, Obj.cells.injEq, Array.mk.injEq, List.cons.injEq, Value.string.injEq, and_true] at hb'
    obtain ⟨_, _, rfl⟩ := hb'
    simp [chain_length hr hr']

theorem Tryd.zeroUnit (w : World) : (zeroValue 63).run Tryd.prog w = .ok (.agg #[]) w := by kernel_rfl

theorem ptr_key (k : Option Addr) : ∀ v, Instr.sameNow (.pointer 30) (.pointer k) v = none := fun v => by cases v <;> rfl

theorem set_look {w : World} {B : Nat} {ks : List Nat} {key : Value} (h : SetAt w B ks) (hk : key = .pointer none ∨ ∃ b, key = .pointer (some ⟨b, 0, none⟩) ∧ IsBlock w b ∧ ∀ k ∈ ks, IsBlock w k ∧ k ≠ b) :
    (Instr.lookup 62 (.map (some B)) key true).run Tryd.prog w = .ok (.tuple #[.agg #[], .bool false]) w := by
  obtain ⟨es, clock, hB, hks⟩ := h
  have hall : ∀ e ∈ es.toList, (Op.equal 28 key e.key).run Tryd.prog w = .ok false w := by
    intro e he
    have hm : e.key ∈ es.toList.map (·.key) := List.mem_map.2 ⟨e, he, rfl⟩
    rw [hks] at hm
    obtain ⟨k, hkm, hke⟩ := List.mem_map.1 hm
    rw [← hke]
    rcases hk with rfl | ⟨b, rfl, hb, hh⟩
    · exact ptr_nil
    · exact ptr_other (hh k hkm).2.symm hb (hh k hkm).1
  have hf := key_none es.toList (k := key) (by rcases hk with rfl | ⟨b, rfl, _⟩ <;> exact ptr_key _) hall
  have hck : (Instr.checkKey es.isEmpty 10000 28 key).run Tryd.prog w = .ok () w := by
    have hd : ∀ (n : Nat) (a : Option Addr), (Instr.checkKey es.isEmpty (n + 1) 28 (.pointer a)).run Tryd.prog w = .ok () w := fun n a => by simp [Instr.checkKey, run_underlying Tryd.underlying28]
    rcases hk with rfl | ⟨b, rfl, _⟩
    · exact hd 9999 _
    · exact hd 9999 _
  have hg : (getObj B).run Tryd.prog w = .ok (.map es clock) w := MapKept.run_getObj_map hB
  simp [Instr.lookup, run_underlying Tryd.underlying62, hg, hck, hf, Result.andThen]

theorem set_put {w : World} {B b : Nat} {ks : List Nat} (h : SetAt w B ks) (hb : IsBlock w b) (hh : ∀ k ∈ ks, IsBlock w k ∧ k ≠ b) :
    ∃ w', (Instr.mapUpdate 62 (.map (some B)) (.pointer (some ⟨b, 0, none⟩)) (.agg #[])).run Tryd.prog w = .ok () w' ∧ SetAt w' B (ks ++ [b]) ∧ w'.heap.size = w.heap.size ∧ (∀ k, k ≠ B → w'.heap[k]? = w.heap[k]?) ∧ w'.os = w.os ∧ w'.tape = w.tape ∧ w'.output = w.output := by
  obtain ⟨es, clock, hB, hks⟩ := h
  have hall : ∀ e ∈ es.toList, (Op.equal 28 (.pointer (some ⟨b, 0, none⟩)) e.key).run Tryd.prog w = .ok false w := by
    intro e he
    have hm : e.key ∈ es.toList.map (·.key) := List.mem_map.2 ⟨e, he, rfl⟩
    rw [hks] at hm
    obtain ⟨k, hkm, hke⟩ := List.mem_map.1 hm
    rw [← hke]
    exact ptr_other (hh k hkm).2.symm hb (hh k hkm).1
  have hf := key_none es.toList (k := .pointer (some ⟨b, 0, none⟩)) (ptr_key _) hall
  have hck : (Instr.checkKey false 10000 28 (.pointer (some ⟨b, 0, none⟩))).run Tryd.prog w = .ok () w := by
    have hd : ∀ (n : Nat) (a : Option Addr), (Instr.checkKey false (n + 1) 28 (.pointer a)).run Tryd.prog w = .ok () w := fun n a => by simp [Instr.checkKey, run_underlying Tryd.underlying28]
    exact hd 9999 _
  have hg : (getObj B).run Tryd.prog w = .ok (.map es clock) w := MapKept.run_getObj_map hB
  have hlt : B < w.heap.size := lt_of_block hB
  have hset := MapKept.run_setObj_map (P := Tryd.prog) (.map (es.push { key := .pointer (some ⟨b, 0, none⟩), val := .agg #[], born := clock }) (clock + 1)) hB
  have hrun : (Instr.mapUpdate 62 (.map (some B)) (.pointer (some ⟨b, 0, none⟩)) (.agg #[])).run Tryd.prog w = (setObj B (.map (es.push { key := .pointer (some ⟨b, 0, none⟩), val := .agg #[], born := clock }) (clock + 1))).run Tryd.prog w := by
    simp [Instr.mapUpdate, run_underlying Tryd.underlying62, hg, hck, hf, Result.andThen]
  refine ⟨_, hrun.trans hset, ⟨es.push { key := .pointer (some ⟨b, 0, none⟩), val := .agg #[], born := clock }, clock + 1, ?_, ?_⟩, ?_, fun k hk => ?_, rfl, rfl, rfl⟩
  · simp [hlt]
  · simp [hks]
  · simp
  · simp [Ne.symm hk]
end Go.Proofs.YtbidhljigeoooaaDoor
