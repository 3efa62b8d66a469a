/-
  OWN WORK. The program's tree: Drop.
-/
import Derived.Test.YtpblhdpnmnfieaaBTrLink
import Derived.Test.YtpblhdpnmnfieaaBTrKeep
namespace Go.Proofs.Ytpblhdpnmnfieaa
open Go.RowKit Rc
open Tr (Nm En T)
namespace Tm
variable {p : Nat} {av : Value} {gs : List Nat} {S : Nat → Prop} {t : T} {w w1 : World}
theorem Went.mid {A B : T} {e : En} (h : Went p av gs S w (A ++ e :: B) w1) : ∃ ga g gb S1, gs = ga ++ g :: gb ∧ ga.length = A.length ∧ EAt g e S1 w1 ∧
    ∀ w2 e' S1', EAt g e' S1' w2 → Mod w1 w2 S1 → (∀ b, S1' b → S1 b ∨ w1.heap.size ≤ b) → Went p av gs S w (A ++ e' :: B) w2 := by
  obtain ⟨S', h1, h2, h3⟩ := h
  obtain ⟨ga, g, gb, S1, k0, k1, k2, k3, k4⟩ := h1.turn
  refine ⟨ga, g, gb, S1, k0, k1, k2, fun w2 e' S1' m1 m2 m3 => ?_⟩
  obtain ⟨S'', n1, n2, n3⟩ := k4 w2 e' S1' m1 m2 m3
  exact ⟨S'', n1, mod_trans h2 h3 n2, fun b hb => (n3 b hb).elim (h3 b) fun h8 => .inr (Nat.le_trans h2.size h8)⟩
theorem Went.row (h : Went p av gs S w t w1) : w1.cell? ⟨p, 0, none⟩ = some av ∧ w1.ownsRow 0 50 1 av gs.length (ptrCells gs) := by
  obtain ⟨S', h1, h2, h3⟩ := h
  exact ⟨h1.box.cell 0, h1.row⟩

end Tm
end Go.Proofs.Ytpblhdpnmnfieaa
