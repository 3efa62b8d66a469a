/-
  OWN WORK. Texts of bytes.
-/
import Derived.Test.YtpblhdpnmnfieaaL01
namespace Go.Proofs.Ytpblhdpnmnfieaa
open Go.RowKit

/-- A text of these bytes. -/
def strOf (l : List UInt8) : ByteArray := ⟨l.toArray⟩

theorem strOf_size (l : List UInt8) : (strOf l).size = l.length := by simp [strOf, ByteArray.size]

theorem str_any (w : World) (A : Option Addr) (l : List UInt8) (c : Nat) (h : Rd w A l) : (convert 60 9 (.slice A l.length c)).run Try.prog w = .ok (.string (strOf l)) w := by
  cases A with
  | none =>
    have hl : l = [] := by
      rcases Nat.eq_zero_or_pos l.length with h1 | h1
      · exact List.eq_nil_of_length_eq_zero h1
      · obtain ⟨b, off, h2, _⟩ := h h1
        cases h2
    subst hl
    exact run_convert_bytes_nil w 60 5 Try.underlying60 Try.underlying5 0 c 9 Try.underlying9
  | some ad =>
    have hl : (loadCells ad l.length).run Try.prog w = .ok ((l.map fun b => ((b.toNat : Nat) : Int)).map (Value.int .u8)).toArray w := by
      have := run_loadCells_list (P := Try.prog) w ad ((l.map fun b => ((b.toNat : Nat) : Int)).map (Value.int .u8)) (fun j v hj => by
        rw [List.map_map] at hj
        simp only [List.getElem?_map, Option.map_eq_some_iff] at hj
        obtain ⟨x, hx, rfl⟩ := hj
        obtain ⟨b, off, h1, _, h2⟩ := h (by have := (List.getElem?_eq_some_iff.1 hx).1; omega)
        obtain rfl : ad = ⟨b, off, none⟩ := by injection h1
        rw [add_plain]
        exact h2 j x hx)
      simpa using this
    rw [run_convert_bytes_string w 60 9 5 _ l.length c Try.underlying60 Try.underlying5 Try.underlying9, run_bytesToString w _ l.length c _ hl, foldl_push_bytes]
    congr 3
    simp [ByteArray.empty, ByteArray.emptyWithCapacity]
    have e : ((fun n : Int => UInt8.ofNat n.toNat) ∘ fun b : UInt8 => ((b.toNat : Nat) : Int)) = id := funext fun b => by simp
    rw [e, List.map_id]
    rfl
end Go.Proofs.Ytpblhdpnmnfieaa
