/-
  OWN WORK. A law's list of parts, as it lies in memory.
-/
import Derived.Test.YtpnnikifaalkoaaBaRow
namespace Go.Proofs.Ytpnnikifaalkoaa
open Go.RowKit

/-- One part, as an argument's element. -/
structure PartD where
  kd : Int
  n : Nat
  A : Option Addr
  x : List UInt8
  c : Nat
def PartD.val (p : PartD) : Value := .agg #[.int .i64 p.kd, .int .u64 (p.n : Nat), .slice p.A p.x.length p.c]
structure PartD.Ok (w : World) (a : Addr) (i : Nat) (p : PartD) : Prop where
  c0 : w.cell? (a.add (i * 3)) = some (.int .i64 p.kd)
  c1 : w.cell? (a.add (i * 3 + 1)) = some (.int .u64 (p.n : Nat))
  c2 : w.cell? (a.add (i * 3 + 2)) = some (.slice p.A p.x.length p.c)
  rd : Rd w p.A p.x
  fits : p.x.length ≤ p.c
  long : p.x.length ≤ 9223372036854775807
  small : p.n ≤ 18446744073709551615
  lt : a.block < w.heap.size
def PartsIn (w : World) (A : Option Addr) (ps : List PartD) : Prop := 0 < ps.length → ∃ a, A = some a ∧ ∀ (i : Nat) (p : PartD), ps[i]? = some p → p.Ok w a i
theorem PartsIn.plain {w : World} {A : Option Addr} {ps : List PartD} (h : PartsIn w A ps) (h0 : 0 < ps.length) : ∃ b off, A = some ⟨b, off, none⟩ ∧ ∀ (i : Nat) (p : PartD), ps[i]? = some p → p.Ok w ⟨b, off, none⟩ i := by
  obtain ⟨a, rfl, hok⟩ := h h0
  have hs := World.cell?_spot (hok 0 _ (List.getElem?_eq_getElem h0)).c0
  obtain ⟨b, off, spot⟩ := a
  have : spot = none := by simpa [Addr.add] using hs
  subst this
  exact ⟨b, off, rfl, hok⟩
theorem PartD.Ok.cells {w w' : World} {b off : Nat} {i : Nat} {p : PartD} (h : p.Ok w ⟨b, off, none⟩ i) (hb : Below w.heap.size w w') :
    w'.cell? ⟨b, off + i * 3, none⟩ = some (.int .i64 p.kd) ∧ w'.cell? ⟨b, off + i * 3 + 1, none⟩ = some (.int .u64 (p.n : Nat)) ∧ w'.cell? ⟨b, off + i * 3 + 2, none⟩ = some (.slice p.A p.x.length p.c) := by
  have lt : b < w.heap.size := h.lt
  have c0 := h.c0
  have c1 := h.c1
  have c2 := h.c2
  simp only [add_plain] at c0 c1 c2
  exact ⟨(hb.cell (p := ⟨b, off + i * 3, none⟩) lt).trans c0, (hb.cell (p := ⟨b, off + i * 3 + 1, none⟩) lt).trans (by rw [← c1]; rfl), (hb.cell (p := ⟨b, off + i * 3 + 2, none⟩) lt).trans (by rw [← c2]; rfl)⟩
end Go.Proofs.Ytpnnikifaalkoaa
