/-
  OWN WORK. Regions by facts: texts of bytes.
-/
import Derived.Test.YtpblhdpnmnfieaaL02
import Derived.Test.YtpblhdpnmnfieaaLBaStr
namespace Go.Proofs.Ytpblhdpnmnfieaa
open Go.RowKit

section
variable {F : Nat → Rg.Fact} {cons : List (Nat × Nat)} {al : List (Nat × Nat × (Value → Value))} {W0 : World} {V : Nat → Value} {j : Nat} {o : Oper} {b : Act} {w : World}
theorem step_str (l : List UInt8) {x : Operand} {A : Option Addr} {m c : Nat} (hop : o.op = .convert 60 9 x) (hx : b.eval x = .slice A m c) (hm : l.length = m) (hr : Rd w A l) (hF : F j = Rg.val (.string (strOf l))) (ha : (al.all fun x => x.1 != j) = true) (hc : Rg.consOf cons j = none) (hg : Rg.Open o V) :
    Rg.Does1 Try.prog o V b w (Rg.Good F (Rg.consOf cons) (Rg.alias al) W0 V j w) := by
  subst hm
  refine Rg.step_val (.string (strOf l)) (Rg.alias_none ha V _) hc hg ?_ (by rw [hF]; rfl) (by rw [hF]; rfl)
  have := str_any w A l c hr
  obtain ⟨dst, op, ty, pos, after, guard⟩ := o
  simp only at hop
  subst hop
  simp only [execOp, hx]
  go_simp
end
end Go.Proofs.Ytpblhdpnmnfieaa
