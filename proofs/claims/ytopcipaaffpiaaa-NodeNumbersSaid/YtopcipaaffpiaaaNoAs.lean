/-
  OWN WORK. Encode and Decode, their answers spelled out.
-/
import Derived.Test.YtopcipaaffpiaaaNoDec
import Derived.Test.YtopcipaaffpiaaaNoRefDec
import Derived.Test.YtopcipaaffpiaaaNoEnc
import Derived.Test.YtopcipaaffpiaaaNoRefEnc
namespace Go.Proofs.Ytopcipaaffpiaaa
open Go.RowKit Rc

theorem pair_is {α β : Type} (p : α × β) : ∃ a b, p = (a, b) := ⟨p.1, p.2, rfl⟩
section
variable {id kind links size : Int} {till : Nat} {shut : Bool}
theorem dec_as (R : RSaid codecFns) (hM : RMake R) (w : World) (A : Option Addr) (L : List UInt8) (cap : Nat) (hr : Rd w A L) (hc : L.length ≤ cap) (hl : L.length ≤ 140737488351232) {f : Nat} (h : ndDec L = (⟨id, kind, links, size, till, shut⟩, f)) :
    Calls Try.prog 14 #[.slice A L.length cap] w fun e w' => e = .returned (.tuple #[.agg #[.int .i64 id, .int .i64 kind, .int .i64 links, .int .i64 size, .int .u64 (till : Nat), .bool shut], .int .i64 (f : Nat)]) ∧ Hid (Below w.heap.size w w') := by
  refine (dec_any R hM w A L cap hr hc hl).mono ?_
  rintro e w' ⟨rfl, hb⟩
  rw [h]
  exact ⟨rfl, hb⟩
theorem refDec_as (w : World) (A : Option Addr) (L : List UInt8) (cap : Nat) (hr : Rd w A L) (hc : L.length ≤ cap) (hl : L.length ≤ 1000000) {f : Nat} (h : ndDec L = (⟨id, kind, links, size, till, shut⟩, f)) :
    Calls Try.prog 21 #[.slice A L.length cap] w fun e w' => e = .returned (.tuple #[.agg #[.int .i64 id, .int .i64 kind, .int .i64 links, .int .i64 size, .int .u64 (till : Nat), .bool shut], .int .i64 (f : Nat)]) ∧ Hid (Below w.heap.size w w') := by
  refine (refDec_any w A L cap hr hc hl).mono ?_
  rintro e w' ⟨rfl, hb⟩
  rw [h]
  exact ⟨rfl, hb⟩
theorem enc_yes_as (C : WSaid) (w : World) (h : Nd.Right ⟨id, kind, links, size, till, shut⟩) : Calls Try.prog 13 #[.agg #[.int .i64 id, .int .i64 kind, .int .i64 links, .int .i64 size, .int .u64 (till : Nat), .bool shut]] w fun e w' => ∃ X c, e = .returned (.tuple #[.slice X 16 c, .int .i64 0]) ∧ 16 ≤ c ∧ Hid (w'.ownsRow w.heap.size 5 1 (.slice X 16 c) 16 (Lib.byteCells (Nd.bytes ⟨id, kind, links, size, till, shut⟩))) ∧ Hid (Rd w' X (Nd.bytes ⟨id, kind, links, size, till, shut⟩)) ∧ Hid (Below w.heap.size w w') := by
  refine (enc_yes C ⟨id, kind, links, size, till, shut⟩ h w).mono ?_
  rintro e w' ⟨X, c, rfl, hc, ho, hb⟩
  refine ⟨X, c, rfl, hc, ho, ?_, hb⟩
  have hl := Nd.bytes_length ⟨id, kind, links, size, till, shut⟩
  obtain ⟨X', c', e, _, hr⟩ := own_form (show w'.ownsRow w.heap.size 5 1 (.slice X 16 c) (Nd.bytes ⟨id, kind, links, size, till, shut⟩).length (Lib.byteCells (Nd.bytes ⟨id, kind, links, size, till, shut⟩)) from by rw [hl]; exact ho)
  injection e with e1 e2 e3
  subst e1
  exact hr
theorem enc_no_as (w : World) (h : Nd.right ⟨id, kind, links, size, till, shut⟩ = false) : Calls Try.prog 13 #[.agg #[.int .i64 id, .int .i64 kind, .int .i64 links, .int .i64 size, .int .u64 (till : Nat), .bool shut]] w fun e w' => e = .returned (.tuple #[.slice none 0 0, .int .i64 12]) ∧ Hid (Below w.heap.size w w') :=
  (enc_no ⟨id, kind, links, size, till, shut⟩ h w).mono fun _e _w' ⟨h1, h2⟩ => ⟨h1, h2⟩
theorem right_as (w : World) {b : Bool} (h : Nd.right ⟨id, kind, links, size, till, shut⟩ = b) : Calls Try.prog 20 #[.agg #[.int .i64 id, .int .i64 kind, .int .i64 links, .int .i64 size, .int .u64 (till : Nat), .bool shut]] w fun e w' => e = .returned (.bool b) ∧ Hid (Below w.heap.size w w') := by
  subst h
  exact (right_any ⟨id, kind, links, size, till, shut⟩ w).mono fun e w' ⟨h1, h2⟩ => ⟨h1, h2⟩
theorem refRight_as (w : World) {b : Bool} (h : Nd.right ⟨id, kind, links, size, till, shut⟩ = b) : Calls Try.prog 19 #[.agg #[.int .i64 id, .int .i64 kind, .int .i64 links, .int .i64 size, .int .u64 (till : Nat), .bool shut]] w fun e w' => e = .returned (.bool b) ∧ Hid (Below w.heap.size w w') := by
  subst h
  exact (refRight_any ⟨id, kind, links, size, till, shut⟩ w).mono fun e w' ⟨h1, h2⟩ => ⟨h1, h2⟩
theorem refEnc_as (w : World) (h : Nd.Ok ⟨id, kind, links, size, till, shut⟩) : Calls Try.prog 7 #[.agg #[.int .i64 id, .int .i64 kind, .int .i64 links, .int .i64 size, .int .u64 (till : Nat), .bool shut]] w fun e w' => ∃ X c, e = .returned (.slice X 16 c) ∧ 16 ≤ c ∧ Hid (w'.ownsRow w.heap.size 5 1 (.slice X 16 c) 16 (Lib.byteCells (Nd.bytes ⟨id, kind, links, size, till, shut⟩))) ∧ Hid (Rd w' X (Nd.bytes ⟨id, kind, links, size, till, shut⟩)) ∧ Hid (Below w.heap.size w w') := by
  refine (refEnc_any ⟨id, kind, links, size, till, shut⟩ h w).mono ?_
  rintro e w' ⟨v, rfl, ho, hb⟩
  have hl := Nd.bytes_length ⟨id, kind, links, size, till, shut⟩
  have ho' : w'.ownsRow w.heap.size 5 1 v (Nd.bytes ⟨id, kind, links, size, till, shut⟩).length (Lib.byteCells (Nd.bytes ⟨id, kind, links, size, till, shut⟩)) := by rw [hl]; exact ho
  obtain ⟨X, c, rfl, hc, hr⟩ := own_form ho'
  rw [hl] at hc
  rw [hl] at ho' ⊢
  exact ⟨X, c, rfl, hc, ho', hr, hb⟩
end
end Go.Proofs.Ytopcipaaffpiaaa
