/-
  OWN WORK. Law 11's known, walked.
-/
import Derived.Test.YtpblhdpnmnfieaaLTrObjA
import Derived.Test.YtpblhdpnmnfieaaLTrKeptB
namespace Go.Proofs.Ytpblhdpnmnfieaa
open Go.RowKit Rc
open Tr (Nm En T)
namespace Tm
def k1 : T := (Tr.make Tr.new [[97]] 2).2
def k2 : T := (Tr.make k1 [[97], [98]] 1).2
def k3 : T := (Tr.link k2 [[97], [98]] [[99]]).2
theorem k1_is : Tr.make Tr.new [[97]] 2 = ((1, 0), k1) ∧ Tr.make k1 [[97], [98]] 1 = ((2, 0), k2) ∧ Tr.link k2 [[97], [98]] [[99]] = (0, k3) ∧ Tr.node k3 2 = (⟨2, 1, 2, 0, 0, false⟩, true) ∧ k3.length = 3 := by
  refine ⟨?_, ?_, ?_, ?_, ?_⟩ <;> rfl
theorem k1_good : Tr.Good k1 := Tr.make_good Tr.new_good _ _
theorem k2_good : Tr.Good k2 := Tr.make_good k1_good _ _
theorem k3_good : Tr.Good k3 := Tr.link_good k2_good _ _
variable {v : Value} {w0 w : World} {t : T} {B : Nat → Prop}
/-- Names that are written out. -/
theorem make_lit (h : One1 v w0 t B w) (hG : Tr.Good t) (q : List Bs) (kind : Int) {t' : T} {i : Int} {n : Nat} (hq : Tr.make t q kind = ((i, n), t')) (hl : q.length ≤ 1000000) (hs : ∀ s ∈ q, s.length ≤ 1000000) :
    Calls Try.prog 13 #[v, .slice (some ⟨w.heap.size, 0, none⟩) q.length q.length, .int .i64 kind] (w.alloc (.cells (txtCells q).toArray 9)) (Turn1 v w0 t' B (.tuple #[.int .i64 i, .int .i64 (n : Nat)]) w) := by
  have h1 := o_make (h.later (below_new w (.cells (txtCells q).toArray 9))) hG (some ⟨w.heap.size, 0, none⟩) q q.length kind (rds_alloc w q 9 (0, 0)) (Nat.le_refl _) hl hs
  rw [hq] at h1
  refine h1.mono ?_
  rintro e w' ⟨he, B', k1, k2, k3⟩
  have hb := below_new w (.cells (txtCells q).toArray 9)
  exact ⟨he, B', k1, ⟨k2.os, k2.tape, k2.output, Nat.le_trans hb.size k2.size, fun b hb2 hn => (k2.block b (Nat.lt_of_lt_of_le hb2 hb.size) hn).trans (hb.block b hb2)⟩, fun b hb2 => (k3 b hb2).imp id fun h4 => Nat.le_trans hb.size h4⟩
theorem Turn1.one {x : Value} {t' : T} {e : Ending} {w' : World} (h : Turn1 v w0 t' B x w e w') : e = .returned x ∧ ∃ B', Hid (One1 v w0 t' B' w') := by
  obtain ⟨h1, B', h2, _, _⟩ := h
  exact ⟨h1, B', h2⟩

end Tm
end Go.Proofs.Ytpblhdpnmnfieaa
