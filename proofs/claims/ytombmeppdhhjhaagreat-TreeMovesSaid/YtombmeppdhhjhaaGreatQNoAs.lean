/-
  OWN WORK. Encode and Decode, their answers spelled out.
-/
import Derived.Test.YtombmeppdhhjhaaGreatQNoDec
import Derived.Test.YtombmeppdhhjhaaGreatQNoRefDec
import Derived.Test.YtombmeppdhhjhaaGreatQNoEnc
import Derived.Test.YtombmeppdhhjhaaGreatQNoRefEnc
namespace Go.Proofs.YtombmeppdhhjhaaGreat
open Go.RowKit Rc

section
variable {id kind links size : Int} {till : Nat} {shut : Bool}
theorem enc_yes_as (C : WSaid) (w : World) (h : Nd.Right ⟨id, kind, links, size, till, shut⟩) : Calls Tryz.prog 86 #[.agg #[.int .i64 id, .int .i64 kind, .int .i64 links, .int .i64 size, .int .u64 (till : Nat), .bool shut]] w fun e w' => ∃ X c, e = .returned (.tuple #[.slice X 16 c, .int .i64 0]) ∧ 16 ≤ c ∧ Hid (w'.ownsRow w.heap.size 5 1 (.slice X 16 c) 16 (Lib.byteCells (Nd.bytes ⟨id, kind, links, size, till, shut⟩))) ∧ Hid (Rd w' X (Nd.bytes ⟨id, kind, links, size, till, shut⟩)) ∧ Hid (Below w.heap.size w w') := by
  refine (enc_yes C ⟨id, kind, links, size, till, shut⟩ h w).mono ?_
  rintro e w' ⟨X, c, rfl, hc, ho, hb⟩
  refine ⟨X, c, rfl, hc, ho, ?_, hb⟩
  have hl := Nd.bytes_length ⟨id, kind, links, size, till, shut⟩
  obtain ⟨X', c', e, _, hr⟩ := own_form (show w'.ownsRow w.heap.size 5 1 (.slice X 16 c) (Nd.bytes ⟨id, kind, links, size, till, shut⟩).length (Lib.byteCells (Nd.bytes ⟨id, kind, links, size, till, shut⟩)) from by rw [hl]; exact ho)
  injection e with e1 e2 e3
  subst e1
  exact hr
end
end Go.Proofs.YtombmeppdhhjhaaGreat
