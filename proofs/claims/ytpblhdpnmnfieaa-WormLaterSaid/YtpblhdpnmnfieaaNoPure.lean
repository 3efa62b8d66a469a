/-
  OWN WORK. Nodes: plain mathematics.
-/
import Derived.Test.YtpblhdpnmnfieaaCpBack
import Derived.Test.YtpblhdpnmnfieaaBaIn64
namespace Go.Proofs.Ytpblhdpnmnfieaa
open Go.RowKit
/-- What stands at a name. -/
structure Nd where
  id : Int
  kind : Int
  links : Int
  size : Int
  till : Nat
  shut : Bool
namespace Nd
def val (n : Nd) : Value := .agg #[.int .i64 n.id, .int .i64 n.kind, .int .i64 n.links, .int .i64 n.size, .int .u64 (n.till : Nat), .bool n.shut]
def zero : Nd := ⟨0, 0, 0, 0, 0, false⟩
/-- A node of the program's numbers. -/
structure Ok (n : Nd) : Prop where
  id : In64 n.id
  kind : In64 n.kind
  links : In64 n.links
  size : In64 n.size
  till : n.till ≤ 18446744073709551615
theorem zero_ok : zero.Ok := by constructor <;> simp [zero, In64]
def Right (n : Nd) : Prop :=
  0 ≤ n.id ∧ n.id ≤ 65535 ∧ 0 ≤ n.links ∧ n.links ≤ 65535 ∧ 0 ≤ n.size ∧ n.size ≤ 4096 ∧ n.till ≤ 1099511627776 ∧ (n.kind = 1 ∨ n.kind = 2 ∧ n.size = 0 ∧ n.till = 0 ∧ n.shut = true)
instance (n : Nd) : Decidable n.Right := by unfold Right; infer_instance
def right (n : Nd) : Bool := decide n.Right
def same (a b : Nd) : Bool := a.id == b.id && (a.kind == b.kind && (a.links == b.links && (a.size == b.size && (a.till == b.till && a.shut == b.shut))))
theorem same_iff (a b : Nd) : a.same b = true ↔ a = b := by
  obtain ⟨a1, a2, a3, a4, a5, a6⟩ := a
  obtain ⟨b1, b2, b3, b4, b5, b6⟩ := b
  simp [same, Nd.mk.injEq]
theorem same_self (a : Nd) : a.same a = true := (same_iff a a).2 rfl
theorem same_no {a b : Nd} (h : a ≠ b) : a.same b = false := by
  cases h1 : a.same b
  · rfl
  · exact absurd ((same_iff a b).1 h1) h
/-- The lowest bits. -/
def lo16 (x : Int) : Nat := (x % 65536).toNat
def lo8 (x : Int) : Nat := (x % 256).toNat
def bytes (n : Nd) : List UInt8 := Co.wShort (lo16 n.id) ++ (Co.wByte (lo8 n.kind) ++ (Co.wShort (lo16 n.links) ++ (Co.wShort (lo16 n.size) ++ (Co.wLong n.till ++ Co.wFlag n.shut))))
theorem bytes_length (n : Nd) : n.bytes.length = 16 := by
  simp only [bytes, List.length_append, Co.wLong_length]
  rfl
end Nd
/-- The fields, read one behind the other. -/
def ndRead (L : List UInt8) : Nd × Co.Rs :=
  let p1 := Co.num 2 ⟨L, 0⟩
  let p2 := Co.num 1 p1.2
  let p3 := Co.num 2 p2.2
  let p4 := Co.num 2 p3.2
  let p5 := Co.num 8 p4.2
  let p6 := Co.flag p5.2
  (⟨(p1.1 : Nat), (p2.1 : Nat), (p3.1 : Nat), (p4.1 : Nat), p5.1, p6.1⟩, p6.2)
def ndDec (L : List UInt8) : Nd × Nat :=
  if Co.fin (ndRead L).2 ≠ 0 ∨ (ndRead L).1.right = false then (Nd.zero, 12) else ((ndRead L).1, 0)
theorem ndRead_ok (L : List UInt8) : (ndRead L).1.Ok := by
  have h1 := num_small2 ⟨L, 0⟩
  have h2 := num_small1 (Co.num 2 ⟨L, 0⟩).2
  have h3 := num_small2 (Co.num 1 (Co.num 2 ⟨L, 0⟩).2).2
  have h4 := num_small2 (Co.num 2 (Co.num 1 (Co.num 2 ⟨L, 0⟩).2).2).2
  have h5 := num_lt 8 (Co.num 2 (Co.num 2 (Co.num 1 (Co.num 2 ⟨L, 0⟩).2).2).2).2
  constructor
  · show In64 (((Co.num 2 ⟨L, 0⟩).1 : Nat) : Int); unfold In64; omega
  · show In64 (((Co.num 1 (Co.num 2 ⟨L, 0⟩).2).1 : Nat) : Int); unfold In64; omega
  · show In64 (((Co.num 2 (Co.num 1 (Co.num 2 ⟨L, 0⟩).2).2).1 : Nat) : Int); unfold In64; omega
  · show In64 (((Co.num 2 (Co.num 2 (Co.num 1 (Co.num 2 ⟨L, 0⟩).2).2).2).1 : Nat) : Int); unfold In64; omega
  · show (Co.num 8 (Co.num 2 (Co.num 2 (Co.num 1 (Co.num 2 ⟨L, 0⟩).2).2).2).2).1 ≤ 18446744073709551615; omega
theorem ndDec_cases (L : List UInt8) : ndDec L = (Nd.zero, 12) ∨ (ndDec L).2 = 0 := by
  unfold ndDec
  split
  · exact .inl rfl
  · exact .inr rfl
theorem ndDec_ok (L : List UInt8) : (ndDec L).1.Ok := by
  unfold ndDec
  split
  · exact Nd.zero_ok
  · exact ndRead_ok L
/-- What is read of what was written. -/
theorem ndDec_bytes (n : Nd) (h : n.Right) : ndDec n.bytes = (n, 0) := by
  have hr : n.right = true := by simpa [Nd.right] using h
  obtain ⟨h1, h2, h3, h4, h5, h6, h7, h8⟩ := h
  obtain ⟨id, kind, links, size, till, shut⟩ := n
  simp only at h1 h2 h3 h4 h5 h6 h7 h8
  have e : ndRead (Nd.bytes ⟨id, kind, links, size, till, shut⟩) = (⟨id, kind, links, size, till, shut⟩, ⟨[], 0⟩) := by
    unfold ndRead Nd.bytes
    simp only [Co.num_short, Co.num_byte, Co.num_long till (by omega)]
    have ef := Co.flag_app shut []
    rw [List.append_nil] at ef
    rw [ef]
    have e1 : ((Nd.lo16 id % 65536 : Nat) : Int) = id := by unfold Nd.lo16; omega
    have e2 : ((Nd.lo8 kind % 256 : Nat) : Int) = kind := by unfold Nd.lo8; omega
    have e3 : ((Nd.lo16 links % 65536 : Nat) : Int) = links := by unfold Nd.lo16; omega
    have e4 : ((Nd.lo16 size % 65536 : Nat) : Int) = size := by unfold Nd.lo16; omega
    rw [e1, e2, e3, e4]
  unfold ndDec
  rw [e]
  rw [if_neg (by simp [hr, Co.fin])]
/-- What is read is just what is written. -/
theorem ndDec_inv (L : List UInt8) (h : (ndDec L).2 = 0) : (ndDec L).1.Right ∧ (ndDec L).1.bytes = L := by
  by_cases h0 : Co.fin (ndRead L).2 ≠ 0 ∨ (ndRead L).1.right = false
  · unfold ndDec at h
    rw [if_pos h0] at h
    exact absurd h (by decide)
  · have e : ndDec L = ((ndRead L).1, 0) := by unfold ndDec; rw [if_neg h0]
    rw [e]
    have hf : Co.fin (ndRead L).2 = 0 := Decidable.byContradiction fun hc => h0 (.inl hc)
    have hr : (ndRead L).1.right = true := by
      cases hh : (ndRead L).1.right
      · exact absurd (.inr hh) h0
      · rfl
    refine ⟨by simpa [Nd.right] using hr, ?_⟩
    obtain ⟨w6, r6⟩ := Co.fin_inv _ hf
    obtain ⟨w5, f6⟩ := Co.flag_inv _ w6
    obtain ⟨w4, l5, f5⟩ := Co.long_inv _ w5
    obtain ⟨w3, l4, f4⟩ := Co.short_inv _ w4
    obtain ⟨w2, l3, f3⟩ := Co.short_inv _ w3
    obtain ⟨w1, l2, f2⟩ := Co.byte_inv _ w2
    obtain ⟨w0, l1, f1⟩ := Co.short_inv _ w1
    have r6' : (Co.flag (Co.num 8 (Co.num 2 (Co.num 2 (Co.num 1 (Co.num 2 ⟨L, 0⟩).2).2).2).2).2).2.rem = [] := r6
    rw [r6', List.append_nil] at f6
    have f1' : L = Co.wShort (Co.num 2 ⟨L, 0⟩).1 ++ (Co.num 2 ⟨L, 0⟩).2.rem := f1
    have k16 : ∀ x : Nat, x < 65536 → Nd.lo16 ((x : Nat) : Int) = x := fun x hx => by unfold Nd.lo16; omega
    have k8 : ∀ x : Nat, x < 256 → Nd.lo8 ((x : Nat) : Int) = x := fun x hx => by unfold Nd.lo8; omega
    dsimp only [Nd.bytes, ndRead]
    rw [k16 _ l1, k8 _ l2, k16 _ l3, k16 _ l4, ← f6, ← f5, ← f4, ← f3, ← f2, ← f1']
theorem Nd.bytes_inj {a b : Nd} (ha : a.Right) (hb : b.Right) (h : a.bytes = b.bytes) : a = b := by
  have h1 := ndDec_bytes a ha
  rw [h, ndDec_bytes b hb] at h1
  exact (congrArg Prod.fst h1).symm
end Go.Proofs.Ytpblhdpnmnfieaa
