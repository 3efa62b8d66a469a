/-
  OWN WORK. Law 5's list of calls, as it lies in memory.
-/
import Derived.Test.YtenedgapjbmpgaaBaBools
namespace Go.Proofs.Ytenedgapjbmpgaa
open Go.RowKit

structure AskD where
  kd : Int
  i : Int
  A : Option Addr
  x : List UInt8
  c : Nat
  KA : Option Addr
  ks : List Bool
  kc : Nat
  torn : Int
  cut : Int
def AskD.cell (p : AskD) : Nat → Value
  | 0 => .int .i64 p.kd
  | 1 => .int .i64 p.i
  | 2 => .slice p.A p.x.length p.c
  | 3 => .slice p.KA p.ks.length p.kc
  | 4 => .int .i64 p.torn
  | _ => .int .i64 p.cut
structure AskD.Ok (w : World) (a : Addr) (j : Nat) (p : AskD) : Prop where
  cells : ∀ k, k < 6 → w.cell? (a.add (j * 6 + k)) = some (p.cell k)
  rd : Rd w p.A p.x
  fits : p.x.length ≤ p.c
  long : p.x.length ≤ 9223372036854775807
  rk : RdB w p.KA p.ks
  kfits : p.ks.length ≤ p.kc
  klong : p.ks.length ≤ 9223372036854775807
  ii : In64 p.i
  it : In64 p.torn
  ic : In64 p.cut
  lt : a.block < w.heap.size
def AsksIn (w : World) (A : Option Addr) (ps : List AskD) : Prop := 0 < ps.length → ∃ a, A = some a ∧ ∀ (j : Nat) (p : AskD), ps[j]? = some p → p.Ok w a j
theorem AsksIn.plain {w : World} {A : Option Addr} {ps : List AskD} (h : AsksIn w A ps) (h0 : 0 < ps.length) : ∃ b off, A = some ⟨b, off, none⟩ ∧ ∀ (i : Nat) (p : AskD), ps[i]? = some p → p.Ok w ⟨b, off, none⟩ i := by
  obtain ⟨a, rfl, hok⟩ := h h0
  have hs := World.cell?_spot ((hok 0 _ (List.getElem?_eq_getElem h0)).cells 0 (by omega))
  obtain ⟨b, off, spot⟩ := a
  have : spot = none := by simpa [Addr.add] using hs
  subst this
  exact ⟨b, off, rfl, hok⟩
theorem AskD.Ok.at_ {w w' : World} {b off j : Nat} {p : AskD} (h : p.Ok w ⟨b, off, none⟩ j) (hb : Below w.heap.size w w') (k : Nat) (hk : k < 6) : w'.cell? ⟨b, off + (j * 6 + k), none⟩ = some (p.cell k) := by
  have c := h.cells k hk
  simp only [add_plain] at c
  exact (hb.cell (p := ⟨b, off + (j * 6 + k), none⟩) h.lt).trans c
/-- The cells, as a walk asks for them. -/
theorem AskD.Ok.six {w w' : World} {b off j : Nat} {p : AskD} (h : p.Ok w ⟨b, off, none⟩ j) (hb : Below w.heap.size w w') :
    w'.cell? ⟨b, off + j * 6, none⟩ = some (.int .i64 p.kd) ∧ w'.cell? ⟨b, off + j * 6 + 1, none⟩ = some (.int .i64 p.i) ∧ w'.cell? ⟨b, off + j * 6 + 2, none⟩ = some (.slice p.A p.x.length p.c) ∧
    w'.cell? ⟨b, off + j * 6 + 3, none⟩ = some (.slice p.KA p.ks.length p.kc) ∧ w'.cell? ⟨b, off + j * 6 + 4, none⟩ = some (.int .i64 p.torn) ∧ w'.cell? ⟨b, off + j * 6 + 5, none⟩ = some (.int .i64 p.cut) :=
  ⟨h.at_ hb 0 (by omega), h.at_ hb 1 (by omega), h.at_ hb 2 (by omega), h.at_ hb 3 (by omega), h.at_ hb 4 (by omega), h.at_ hb 5 (by omega)⟩
end Go.Proofs.Ytenedgapjbmpgaa
