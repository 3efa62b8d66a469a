/-
  OWN WORK. A writer made in this world, of whatever form, as it is turned.
-/
import Derived.Test.YtombmeppdhhjhaaGreatQCpSaid
import Derived.Test.YtombmeppdhhjhaaGreatQ01
namespace Go.Proofs.YtombmeppdhhjhaaGreat
open Go.RowKit Rc

def WAt (C : WSaid) (v : Value) (w0 : World) (l : List UInt8) (w : World) : Prop := ∃ S, C.At v l S w ∧ Below w0.heap.size w0 w ∧ ∀ b, S b → w0.heap.size ≤ b
def WRet (C : WSaid) (v : Value) (w0 : World) (l : List UInt8) (e : Ending) (w : World) : Prop := (∃ x, e = .returned x) ∧ Hid (WAt C v w0 l w)
section
variable {C : WSaid} {v : Value} {w0 w : World} {l : List UInt8}
theorem WAt.out {S : Nat → Prop} {l' : List UInt8} {e : Ending} {w' : World} (hb : Below w0.heap.size w0 w) (hS : ∀ b, S b → w0.heap.size ≤ b) (h : WOut C.At v l' S w e w') : WRet C v w0 l' e w' := by
  obtain ⟨hx, S', hat, hm, hs⟩ := h
  exact ⟨hx, S', hat, wout_below hb hS hm, fun b h => (hs b h).elim (hS b) (fun h => Nat.le_trans hb.size h)⟩
theorem WAt.byte (h : WAt C v w0 l w) (hl : l.length ≤ 1099511500000) (n : Nat) (hn : n ≤ 9223372036854775807) : Calls Tryz.prog 125 #[v, .int .i64 (n : Nat)] w (WRet C v w0 (l ++ Co.wByte n)) := by
  obtain ⟨S, hat, hb, hS⟩ := h
  exact (C.byte hat hl n hn).mono fun e w' h => WAt.out hb hS h
theorem WAt.short (h : WAt C v w0 l w) (hl : l.length ≤ 1099511500000) (n : Nat) (hn : n ≤ 9223372036854775807) : Calls Tryz.prog 85 #[v, .int .i64 (n : Nat)] w (WRet C v w0 (l ++ Co.wShort n)) := by
  obtain ⟨S, hat, hb, hS⟩ := h
  exact (C.short hat hl n hn).mono fun e w' h => WAt.out hb hS h
theorem WAt.long (h : WAt C v w0 l w) (hl : l.length ≤ 1099511500000) (n : Nat) (hn : n ≤ 18446744073709551615) : Calls Tryz.prog 126 #[v, .int .u64 (n : Nat)] w (WRet C v w0 (l ++ Co.wLong n)) := by
  obtain ⟨S, hat, hb, hS⟩ := h
  exact (C.long hat hl n hn).mono fun e w' h => WAt.out hb hS h
theorem WAt.flag (h : WAt C v w0 l w) (hl : l.length ≤ 1099511500000) (f : Bool) : Calls Tryz.prog 127 #[v, .bool f] w (WRet C v w0 (l ++ Co.wFlag f)) := by
  obtain ⟨S, hat, hb, hS⟩ := h
  exact (C.flag hat hl f).mono fun e w' h => WAt.out hb hS h
theorem WAt.bytes (h : WAt C v w0 l w) (hl : l.length ≤ 1099511500000) (A : Option Addr) (x : List UInt8) (c : Nat) (hr : Rd w0 A x) (hc : x.length ≤ c) (hx : x.length ≤ 1000000) : Calls Tryz.prog 87 #[v, .slice A x.length c] w (WRet C v w0 (l ++ Co.wBytes x)) := by
  obtain ⟨S, hat, hb, hS⟩ := h
  refine (C.bytes hat hl A x c (hr.below hb) hc hx fun h0 b hA hB => ?_).mono fun e w' h => WAt.out hb hS h
  obtain ⟨b', off, rfl, hlt, _⟩ := hr h0
  simp at hA
  have := hS b hB
  omega
theorem WAt.low (h : WAt C v w0 l w) : Below w0.heap.size w0 w := by obtain ⟨_, _, h, _⟩ := h; exact h
theorem WAt.more {w' : World} (h : WAt C v w0 l w) (hb : Below w.heap.size w w') : WAt C v w0 l w' := by
  obtain ⟨S, hat, hb0, hS⟩ := h
  exact ⟨S, C.keep hat hb.size (fun b hB => hb.block b (C.lt hat b hB)), hb0.trans (hb.mono hb0.size), hS⟩
theorem WAt.bytes2 {w2 : World} (h : WAt C v w0 l w) (hl : l.length ≤ 1099511500000) (hb2 : Below w.heap.size w w2) (A : Option Addr) (x : List UInt8) (c : Nat) (hr : Rd w2 A x) (hA : ∀ b, A.map (·.block) = some b → w.heap.size ≤ b) (hc : x.length ≤ c) (hx : x.length ≤ 1000000) : Calls Tryz.prog 87 #[v, .slice A x.length c] w2 (WRet C v w0 (l ++ Co.wBytes x)) := by
  obtain ⟨S, hat, hb, hS⟩ := h
  refine (C.bytes (C.keep hat hb2.size (fun b hB => hb2.block b (C.lt hat b hB))) hl A x c hr hc hx fun h0 b hA2 hB => ?_).mono fun e w' h => WAt.out (hb.trans (hb2.mono hb.size)) hS h
  have := hA b hA2
  have := C.lt hat b hB
  omega
theorem WAt.done (h : WAt C v w0 l w) : Calls Tryz.prog 88 #[v] w fun e w' => ∃ X c, e = .returned (.slice X l.length c) ∧ l.length ≤ c ∧ Hid (w'.ownsRow 0 5 1 (.slice X l.length c) l.length (Lib.byteCells l)) ∧ Hid (∀ b, (Value.slice X l.length c).ownBlock = some b → w0.heap.size ≤ b) ∧ Hid (Below w.heap.size w w') ∧ Hid (WAt C v w0 l w') := by
  have h' := h
  obtain ⟨S, hat, hb, hS⟩ := h
  refine (C.done hat).mono ?_
  rintro e w' ⟨x, rfl, hown, hb2, ho⟩
  obtain ⟨X, c, rfl, hc, hr⟩ := own_form hown
  exact ⟨X, c, rfl, hc, hown, fun b hb3 => (ho b hb3).elim (hS b) (fun h => Nat.le_trans hb.size h), hb2, h'.more hb2⟩
theorem WAt.new (C : WSaid) (w : World) : Calls Tryz.prog 84 #[] w fun e w' => ∃ a, e = .returned (.pointer (some a)) ∧ Hid (WAt C (.pointer (some a)) w [] w') := by
  refine (C.new w).mono ?_
  rintro e w' ⟨v, S, rfl, hat, hb, hS⟩
  obtain ⟨a, rfl⟩ := C.ptr hat
  exact ⟨a, rfl, S, hat, hb, hS⟩
end
end Go.Proofs.YtombmeppdhhjhaaGreat
