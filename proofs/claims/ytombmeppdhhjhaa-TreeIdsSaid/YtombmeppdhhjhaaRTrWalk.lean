/-
  OWN WORK. The program's tree: walk.
-/
import Derived.Test.YtombmeppdhhjhaaRTrHang
import Derived.Test.YtombmeppdhhjhaaR06
import Derived.Test.YtombmeppdhhjhaaRTrLink
namespace Go.Proofs.Ytombmeppdhhjhaa
open Go.RowKit Rc
open Tr (Nm En T)
namespace Tm
theorem step_append_kept {ops : Array Oper} {o : Oper} {a : Act} {w : World} {K : Act → World → Prop} {Q : Exit → Act → World → Prop} {E : Prop} (hgd : o.guard = none) (s x : Operand)
    (ho : o.op = .call { callee := .builtin .append, args := #[s, x], argTypes := #[28, 28] })
    {v : Value} {l : List Bs} (hs : a.eval s = v) (hown : SOwn w v l) (A : Option Addr) (y : Bs) (c : Nat) (hx : a.eval x = .slice A 1 c) (hr : RdS w A [y]) (hn : l.length ≤ 1000000)
    (h : ∀ v' w', Hid (SOwn w' v' (l ++ [y])) → Hid (w.grownBy w' v.ownBlock) → Hid (v'.ownBlock = v.ownBlock ∨ v'.ownBlock = some w.heap.size) → Hid (∀ W, SOwn W v' (l ++ [y]) → (∀ b, v.ownBlock = some b → v'.ownBlock ≠ some b → W.heap[b]? = w'.heap[b]?) → SOwn W v l) → K (a.put o.dst v') w') :
    if Region.wanted o (yielded ops a.tmps) = true then Oper.wp Try.prog o a w K Q else E := by
  rw [if_pos (show Region.wanted o (yielded ops a.tmps) = true by simp [Region.wanted, hgd])]
  obtain ⟨v', w', hrun, h1, h2, h3, h4⟩ := run_append_kept w v l hown A y c hr hn o.type
  unfold Oper.wp
  simp [execOp, ho, resolve, invoke, builtin, hs, hx, hrun, Result.andThen]
  exact h v' w' h1 h2 h3 h4

abbrev Shown := List (List Bs × Int)
/-- What a closure has been shown. -/
structure Eye where
  At : Shown → (Nat → Prop) → World → Prop
  keep : ∀ {s : Shown} {S : Nat → Prop} {w w' : World}, At s S w → w.heap.size ≤ w'.heap.size → (∀ b, S b → w'.heap[b]? = w.heap[b]?) → At s S w'
  lt : ∀ {s : Shown} {S : Nat → Prop} {w : World}, At s S w → ∀ b, S b → b < w.heap.size
/-- A closure that is shown names. -/
structure Shows (O : Eye) (f : FuncId) (cb : Array Value) : Prop where
  ent : ∀ (args : Array Value) (w : World), (callFunc f args).run Try.prog w = .ok (.enter f args) w
  call : ∀ (w : World) (seen : Shown) (B : Nat → Prop) (A : Option Addr) (q : List Bs) (cap g : Nat) (e : En) (S1 : Nat → Prop), O.At seen B w → RdS w A q → q.length ≤ cap → q.length ≤ 1000 → (∀ b, 0 < q.length → A.map (·.block) = some b → ¬ B b) → EAt g e S1 w → (∀ b, S1 b → ¬ B b) →
    Calls Try.prog f (#[.slice A q.length cap, .pointer (some ⟨g, 0, none⟩)] ++ cb) w fun r w' => r = .returned (.tuple #[]) ∧ ∃ B', O.At (seen ++ [(q, e.nd.id)]) B' w' ∧ Mod w w' B ∧ ∀ b, B' b → B b ∨ w.heap.size ≤ b
/-- Half way. -/
structure WMid (O : Eye) (row : Value) (a : List Bs) (seen : Shown) (B : Nat → Prop) (w : World) (more : Shown) (B' : Nat → Prop) (w' : World) : Prop where
  at_ : O.At (seen ++ more) B' w'
  mod : Mod w w' (fun b => B b ∨ row.ownBlock = some b)
  sub : ∀ b, B' b → B b ∨ w.heap.size ≤ b
  own : SOwn w' row a
structure WPre (O : Eye) (p : Nat) (av : Value) (gs : List Nat) (S : Nat → Prop) (t : T) (row : Value) (a : List Bs) (seen : Shown) (B : Nat → Prop) (w : World) : Prop where
  tin : TIn p av gs S t w
  own : SOwn w row a
  at_ : O.At seen B w
  apT : ∀ b, B b → ¬ TrS p av S b
  apR : ∀ b, row.ownBlock = some b → ¬ B b ∧ ¬ TrS p av S b
def Walked (O : Eye) (row : Value) (a : List Bs) (seen : Shown) (B : Nat → Prop) (w : World) (more : Shown) (r : Ending) (w' : World) : Prop :=
  r = .returned (.tuple #[]) ∧ ∃ B', WMid O row a seen B w more B' w'
section
variable {O : Eye} {p : Nat} {av : Value} {gs : List Nat} {S : Nat → Prop} {t : T} {row : Value} {a : List Bs} {seen : Shown} {B : Nat → Prop} {w : World}
theorem WPre.start (h : WPre O p av gs S t row a seen B w) : WMid O row a seen B w [] B w := ⟨by rw [List.append_nil]; exact h.at_, Mod.refl _ _, fun _ h => .inl h, h.own⟩
theorem WMid.pre {more : Shown} {B' : Nat → Prop} {w' : World} (h : WPre O p av gs S t row a seen B w) (k : WMid O row a seen B w more B' w') : WPre O p av gs S t row a (seen ++ more) B' w' := by
  refine ⟨h.tin.keep fun b hb => k.mod.block b (h.tin.lt hb) (fun hx => hx.elim (fun h1 => h.apT b h1 hb) fun h1 => (h.apR b h1).2 hb), k.own, k.at_, fun b hb ht => ?_, fun b hb => ⟨fun h1 => ?_, (h.apR b hb).2⟩⟩
  · rcases k.sub b hb with h1 | h1
    · exact h.apT b h1 ht
    · have := h.tin.lt ht; omega
  · rcases k.sub b h1 with h2 | h2
    · exact (h.apR b hb).1 h2
    · have := h.own.lt hb; omega
theorem WMid.trans {more more2 : Shown} {B1 B2 : Nat → Prop} {w1 w2 : World} (k : WMid O row a seen B w more B1 w1) (m : WMid O row a (seen ++ more) B1 w1 more2 B2 w2) : WMid O row a seen B w (more ++ more2) B2 w2 :=
  ⟨by rw [← List.append_assoc]; exact m.at_, mod_trans k.mod (fun b hb => hb.elim (fun h1 => (k.sub b h1).imp .inl id) fun h1 => .inl (.inr h1)) m.mod, fun b hb => (m.sub b hb).elim (k.sub b) fun h1 => .inr (Nat.le_trans k.mod.size h1), m.own⟩
/-- Behind the append: the row that is longer. -/
theorem WPre.hung {x : Bs} {v2 : Value} {wa w2 : World} (h : WPre O p av gs S t row a seen B w) (hb : Below w.heap.size w wa) (ho : SOwn w2 v2 (a ++ [x])) (hg : wa.grownBy w2 row.ownBlock) (hal : v2.ownBlock = row.ownBlock ∨ v2.ownBlock = some wa.heap.size) :
    WPre O p av gs S t v2 (a ++ [x]) seen B w2 := by
  have hk : ∀ b, b < w.heap.size → row.ownBlock ≠ some b → w2.heap[b]? = w.heap[b]? := fun b hl hn => (hg.block b (Nat.lt_of_lt_of_le hl hb.size) (fun e => hn e.symm)).trans (hb.block b hl)
  have hsz := Nat.le_trans hb.size hg.size
  refine ⟨h.tin.keep fun b hT => hk b (h.tin.lt hT) fun e => (h.apR b e).2 hT, ho, O.keep h.at_ hsz fun b hB => hk b (O.lt h.at_ b hB) fun e => (h.apR b e).1 hB, h.apT, fun b hv => ?_⟩
  rcases hal with e | e
  · exact h.apR b (e ▸ hv)
  · rw [e] at hv
    injection hv with hv
    have := hb.size
    exact ⟨fun h1 => by have := O.lt h.at_ b h1; omega, fun h1 => by have := h.tin.lt h1; omega⟩
/-- Behind the closure. -/
theorem WPre.told {s2 : Shown} {B2 : Nat → Prop} {w2 : World} (h : WPre O p av gs S t row a seen B w) (h1 : O.At s2 B2 w2) (hm : Mod w w2 B) (hs : ∀ b, B2 b → B b ∨ w.heap.size ≤ b) : WPre O p av gs S t row a s2 B2 w2 :=
  ⟨h.tin.keep fun b hT => hm.block b (h.tin.lt hT) fun hB => h.apT b hB hT, h.own.keep fun b hb => hm.block b (h.own.lt hb) fun hB => (h.apR b hb).1 hB, h1, fun b hb hT => (hs b hb).elim (fun h2 => h.apT b h2 hT) fun h2 => by have := h.tin.lt hT; omega, fun b hb => ⟨fun h2 => (hs b h2).elim (h.apR b hb).1 fun h3 => by have := h.own.lt hb; omega, (h.apR b hb).2⟩⟩
/-- A name shown, and what is below it. -/
theorem WPre.round {x : Bs} {id : Int} {R : Shown} {v2 : Value} {wa w2 w3 w4 : World} {B2 B3 : Nat → Prop} (h : WPre O p av gs S t row a seen B w) (hb : Below w.heap.size w wa) (ho : SOwn w2 v2 (a ++ [x])) (hg : wa.grownBy w2 row.ownBlock) (hal : v2.ownBlock = row.ownBlock ∨ v2.ownBlock = some wa.heap.size)
    (hk : ∀ W, SOwn W v2 (a ++ [x]) → (∀ b, row.ownBlock = some b → v2.ownBlock ≠ some b → W.heap[b]? = w2.heap[b]?) → SOwn W row a)
    (hm : Mod w2 w3 B) (hs : ∀ b, B2 b → B b ∨ w2.heap.size ≤ b) (k : WMid O v2 (a ++ [x]) (seen ++ [(a ++ [x], id)]) B2 w3 R B3 w4) :
    WMid O row a seen B w ((a ++ [x], id) :: R) B3 w4 := by
  have hsz := Nat.le_trans hb.size hg.size
  have hsz2 := hm.size
  have hwa := hb.size
  refine ⟨?_, ?_, fun b hb3 => ?_, hk w4 k.own fun b hr hn => ?_⟩
  · have := k.at_
    rw [List.append_assoc] at this
    exact this
  · have m1 : Mod w w2 (fun b => B b ∨ row.ownBlock = some b) := ⟨hg.os.trans hb.os, hg.tape.trans hb.tape, hg.output.trans hb.output, hsz, fun b hl hn => (hg.block b (Nat.lt_of_lt_of_le hl hb.size) (fun e => hn (.inr e.symm))).trans (hb.block b hl)⟩
    have m2 := mod_trans m1 (fun b hB => .inl (.inl hB)) hm
    refine mod_trans m2 (fun b hB => ?_) k.mod
    rcases hB with hB | hB
    · rcases hs b hB with h1 | h1
      · exact .inl (.inl h1)
      · exact .inr (by omega)
    · rcases hal with e | e
      · exact .inl (.inr (e ▸ hB))
      · rw [e] at hB
        injection hB with hB
        exact .inr (by omega)
  · rcases k.sub b hb3 with h1 | h1
    · rcases hs b h1 with h2 | h2
      · exact .inl h2
      · exact .inr (by omega)
    · exact .inr (by omega)
  · have hlt := h.own.lt hr
    have e1 : w3.heap[b]? = w2.heap[b]? := hm.block b (by omega) (h.apR b hr).1
    refine (k.mod.block b (by omega) fun hx => ?_).trans e1
    rcases hx with h1 | h1
    · rcases hs b h1 with h2 | h2
      · exact (h.apR b hr).1 h2
      · omega
    · exact hn h1
end
end Tm
end Go.Proofs.Ytombmeppdhhjhaa
