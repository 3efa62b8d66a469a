/-
  OWN WORK. Numbers and texts as bytes: plain mathematics.
-/
import Derived.Test.YtpblhdpnmnfieaaBaSet
namespace Go.Proofs.Ytpblhdpnmnfieaa
open Go.RowKit
namespace Co
def wByte (n : Nat) : List UInt8 := [UInt8.ofNat n]
def wShort (n : Nat) : List UInt8 := [UInt8.ofNat (n / 256), UInt8.ofNat n]
def wLong (n : Nat) : List UInt8 := (List.range 8).map fun j => UInt8.ofNat (n / 2 ^ (56 - 8 * j))
def wFlag (f : Bool) : List UInt8 := [if f then 1 else 0]
def wBytes (x : List UInt8) : List UInt8 := wShort (x.take 65535).length ++ x.take 65535
theorem wLong_length (n : Nat) : (wLong n).length = 8 := by simp [wLong]
theorem wLong_take (n j : Nat) (h : j < 8) : (wLong n).take (j + 1) = (wLong n).take j ++ [UInt8.ofNat (n / 2 ^ (56 - 8 * j))] := by
  rw [List.take_succ_eq_append_getElem (by rw [wLong_length]; exact h)]
  simp [wLong]
/-- What a reader has left, and its refusal (0: none). -/
structure Rs where
  rem : List UInt8
  why : Nat
/-- n bytes, or none. -/
def raw (n : Int) (s : Rs) : List UInt8 × Rs :=
  if s.why ≠ 0 ∨ n < 1 then ([], s) else if (s.rem.length : Int) < n then ([], { s with why := 10 }) else (s.rem.take n.toNat, { s with rem := s.rem.drop n.toNat })
def beVal (l : List UInt8) : Nat := l.foldl (fun x b => (x * 256 + b.toNat) % 18446744073709551616) 0
def num (n : Int) (s : Rs) : Nat × Rs := (beVal (raw n s).1, (raw n s).2)
def flag (s : Rs) : Bool × Rs := (decide ((num 1 s).1 = 1), if 1 < (num 1 s).1 then { (num 1 s).2 with why := 12 } else (num 1 s).2)
def bytes (s : Rs) : List UInt8 × Rs := raw ((num 2 s).1 : Nat) (num 2 s).2
def left (s : Rs) : Nat := if s.why ≠ 0 then 0 else s.rem.length
def fin (s : Rs) : Nat := if s.why ≠ 0 then s.why else if 0 < s.rem.length then 11 else 0
end Co
/-- The row that is made empty. -/
theorem MAt.empty (w : World) : MAt w.heap.size (.slice (some ⟨w.heap.size, 0, none⟩) 0 0) [] w (w.alloc (.cells #[] 5)) :=
  ⟨⟨rfl, .inr ⟨w.heap.size, 0, #[], rfl, Nat.le_refl _, heap_alloc_new w _, Nat.le_refl _, by unfold maxLen; omega, rfl, rfl⟩⟩, below_new w _, rfl⟩
theorem rd_cells (w : World) (l : List UInt8) (cs : Array Value) (t : TypeId) (fz : Nat × Nat) (h : cs = (Lib.byteCells l).toArray) : Rd (w.alloc (.cells cs t fz)) (some ⟨w.heap.size, 0, none⟩) l := by
  subst h; exact rd_alloc w l t fz
theorem u8_cast (n : Nat) : (((UInt8.ofNat n).toNat : Nat) : Int) = (n : Int) % 256 := by rw [UInt8.toNat_ofNat']; omega
end Go.Proofs.Ytpblhdpnmnfieaa
