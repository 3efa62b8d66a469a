/-
  OWN WORK. A writer made in this world, of whatever form, as it is turned.
-/
import Derived.Test.YtpnnikifaalkoaaCoBk
import Derived.Test.YtpnnikifaalkoaaBaSet
namespace Go.Proofs.Ytpnnikifaalkoaa
open Go.RowKit Rc

/-- A writer of these bytes, made behind this world. -/
def WAt (C : WSaid) (v : Value) (w0 : World) (l : List UInt8) (w : World) : Prop := ∃ S, C.At v l S w ∧ Below w0.heap.size w0 w ∧ ∀ b, S b → w0.heap.size ≤ b
def WRet (C : WSaid) (v : Value) (w0 : World) (l : List UInt8) (e : Ending) (w : World) : Prop := (∃ x, e = .returned x) ∧ Hid (WAt C v w0 l w)
section
variable {C : WSaid} {v : Value} {w0 w : World} {l : List UInt8}
theorem WAt.out {S : Nat → Prop} {l' : List UInt8} {e : Ending} {w' : World} (hb : Below w0.heap.size w0 w) (hS : ∀ b, S b → w0.heap.size ≤ b) (h : WOut C.At v l' S w e w') : WRet C v w0 l' e w' := by
  obtain ⟨hx, S', hat, hm, hs⟩ := h
  exact ⟨hx, S', hat, wout_below hb hS hm, fun b h => (hs b h).elim (hS b) (fun h => Nat.le_trans hb.size h)⟩
theorem WAt.byte (h : WAt C v w0 l w) (hl : l.length ≤ 1099511500000) (n : Nat) (hn : n ≤ 9223372036854775807) : Calls Try.prog 19 #[v, .int .i64 (n : Nat)] w (WRet C v w0 (l ++ Co.wByte n)) := by
  obtain ⟨S, hat, hb, hS⟩ := h
  exact (C.byte hat hl n hn).mono fun e w' h => WAt.out hb hS h
theorem WAt.short (h : WAt C v w0 l w) (hl : l.length ≤ 1099511500000) (n : Nat) (hn : n ≤ 9223372036854775807) : Calls Try.prog 20 #[v, .int .i64 (n : Nat)] w (WRet C v w0 (l ++ Co.wShort n)) := by
  obtain ⟨S, hat, hb, hS⟩ := h
  exact (C.short hat hl n hn).mono fun e w' h => WAt.out hb hS h
theorem WAt.long (h : WAt C v w0 l w) (hl : l.length ≤ 1099511500000) (n : Nat) (hn : n ≤ 18446744073709551615) : Calls Try.prog 21 #[v, .int .u64 (n : Nat)] w (WRet C v w0 (l ++ Co.wLong n)) := by
  obtain ⟨S, hat, hb, hS⟩ := h
  exact (C.long hat hl n hn).mono fun e w' h => WAt.out hb hS h
theorem WAt.flag (h : WAt C v w0 l w) (hl : l.length ≤ 1099511500000) (f : Bool) : Calls Try.prog 22 #[v, .bool f] w (WRet C v w0 (l ++ Co.wFlag f)) := by
  obtain ⟨S, hat, hb, hS⟩ := h
  exact (C.flag hat hl f).mono fun e w' h => WAt.out hb hS h
/-- Bytes that lay there before the writer was made. -/
theorem WAt.bytes (h : WAt C v w0 l w) (hl : l.length ≤ 1099511500000) (A : Option Addr) (x : List UInt8) (c : Nat) (hr : Rd w0 A x) (hc : x.length ≤ c) (hx : x.length ≤ 1000000) : Calls Try.prog 11 #[v, .slice A x.length c] w (WRet C v w0 (l ++ Co.wBytes x)) := by
  obtain ⟨S, hat, hb, hS⟩ := h
  refine (C.bytes hat hl A x c (hr.below hb) hc hx fun h0 b hA hB => ?_).mono fun e w' h => WAt.out hb hS h
  obtain ⟨b', off, rfl, hlt, _⟩ := hr h0
  simp at hA
  have := hS b hB
  omega
theorem WAt.low (h : WAt C v w0 l w) : Below w0.heap.size w0 w := by obtain ⟨_, _, h, _⟩ := h; exact h
theorem WAt.more {w' : World} (h : WAt C v w0 l w) (hb : Below w.heap.size w w') : WAt C v w0 l w' := by
  obtain ⟨S, hat, hb0, hS⟩ := h
  exact ⟨S, C.keep hat hb.size (fun b hB => hb.block b (C.lt hat b hB)), hb0.trans (hb.mono hb0.size), hS⟩
/-- Bytes that were made behind the writer. -/
theorem WAt.bytes2 {w2 : World} (h : WAt C v w0 l w) (hl : l.length ≤ 1099511500000) (hb2 : Below w.heap.size w w2) (A : Option Addr) (x : List UInt8) (c : Nat) (hr : Rd w2 A x) (hA : ∀ b, A.map (·.block) = some b → w.heap.size ≤ b) (hc : x.length ≤ c) (hx : x.length ≤ 1000000) : Calls Try.prog 11 #[v, .slice A x.length c] w2 (WRet C v w0 (l ++ Co.wBytes x)) := by
  obtain ⟨S, hat, hb, hS⟩ := h
  refine (C.bytes (C.keep hat hb2.size (fun b hB => hb2.block b (C.lt hat b hB))) hl A x c hr hc hx fun h0 b hA2 hB => ?_).mono fun e w' h => WAt.out (hb.trans (hb2.mono hb.size)) hS h
  have := hA b hA2
  have := C.lt hat b hB
  omega
theorem WAt.done (h : WAt C v w0 l w) : Calls Try.prog 12 #[v] w fun e w' => ∃ X c, e = .returned (.slice X l.length c) ∧ l.length ≤ c ∧ Hid (w'.ownsRow 0 5 1 (.slice X l.length c) l.length (Lib.byteCells l)) ∧ Hid (∀ b, (Value.slice X l.length c).ownBlock = some b → w0.heap.size ≤ b) ∧ Hid (Below w.heap.size w w') ∧ Hid (WAt C v w0 l w') := by
  have h' := h
  obtain ⟨S, hat, hb, hS⟩ := h
  refine (C.done hat).mono ?_
  rintro e w' ⟨x, rfl, hown, hb2, ho⟩
  obtain ⟨X, c, rfl, hc, hr⟩ := own_form hown
  exact ⟨X, c, rfl, hc, hown, fun b hb3 => (ho b hb3).elim (hS b) (fun h => Nat.le_trans hb.size h), hb2, h'.more hb2⟩
theorem WAt.new (C : WSaid) (w : World) : Calls Try.prog 10 #[] w fun e w' => ∃ a, e = .returned (.pointer (some a)) ∧ Hid (WAt C (.pointer (some a)) w [] w') := by
  refine (C.new w).mono ?_
  rintro e w' ⟨v, S, rfl, hat, hb, hS⟩
  obtain ⟨a, rfl⟩ := C.ptr hat
  exact ⟨a, rfl, S, hat, hb, hS⟩
end
structure RMake (R : RSaid codecFns) : Prop where
  new : ∀ (w : World) (A : Option Addr) (L : List UInt8) (cap : Nat), Rd w A L → L.length ≤ cap → L.length ≤ 1000000 → Calls Try.prog 8 #[.slice A L.length cap] w fun e w' => ∃ v S, e = .returned v ∧ R.At v A L ⟨L, 0⟩ S w' ∧ Below w.heap.size w w' ∧ ∀ b, S b → w.heap.size ≤ b
/-- A reader made over bytes that lie there: all that it has lies behind. -/
theorem RMake.one {R : RSaid codecFns} (h : RMake R) (w : World) (A : Option Addr) (L : List UInt8) (cap : Nat) (hr : Rd w A L) (hc : L.length ≤ cap) (hl : L.length ≤ 1000000) : Calls Try.prog 8 #[.slice A L.length cap] w fun e w' => ∃ a, e = .returned (.pointer (some a)) ∧ Hid (OneAt R (.pointer (some a)) A L w (fun _ => False) ⟨L, 0⟩ w') := by
  refine (h.new w A L cap hr hc hl).mono ?_
  rintro e w' ⟨v, S, rfl, hat, hb, hS⟩
  obtain ⟨a, rfl⟩ := R.ptr hat
  exact ⟨a, rfl, S, Mod.of_below hb _, hr, fun _ _ _ hf => hf, hat, fun b h => .inr (hS b h)⟩
theorem OneAt.low {f : RFns} {C : RSaid f} {v : Value} {A : Option Addr} {L : List UInt8} {W0 w : World} {s : Co.Rs} (h : OneAt C v A L W0 (fun _ => False) s w) : Below W0.heap.size W0 w := h.mod.below fun _ hf => hf.elim
theorem u8_of (n : Int) (h : 0 ≤ n ∧ n ≤ 255) : ∃ t : UInt8, n = ((t.toNat : Nat) : Int) := ⟨UInt8.ofNat n.toNat, by rw [UInt8.toNat_ofNat']; omega⟩
end Go.Proofs.Ytpnnikifaalkoaa
