/-
  OWN WORK. Law 4's known, by its contract, given what the program's own writer does.
-/
import Derived.Test.YtpnnikifaalkoaaCoSaid
import Derived.Test.YtpnnikifaalkoaaBaStr
namespace Go.Proofs.Ytpnnikifaalkoaa
open Go.RowKit Rc

/-- A writer made in this world, and what is written behind. -/
theorem wout_below {w w1 w2 : World} {S : Nat → Prop} (h : Below w.heap.size w w1) (hS : ∀ b, S b → w.heap.size ≤ b) (hm : Mod w1 w2 S) : Below w.heap.size w w2 :=
  ((Mod.of_below h S).trans hm).below hS
set_option maxHeartbeats 1000000 in
set_option maxRecDepth 100000 in
theorem known4_any (C : WSaid) (w : World) : Calls Try.prog 13 #[] w fun e w' => e = .returned (.bool true) ∧ Below w.heap.size w w' := by
  go_enter Try.func13, Try.ntmps13
  go_wp2_with fail
  refine (C.new w).mono ?_
  rintro e w1 ⟨v, S, rfl, hat, hb, hS⟩
  obtain ⟨a, rfl⟩ := C.ptr hat
  have HC := Lib.hid hat
  have HB := Lib.hid hb
  have HS := Lib.hid hS
  clear hat hb hS
  go_wp2_with fail
  refine (C.short HC.out (by simp) 258 (by omega)).mono ?_
  rintro e w2 ⟨⟨x, rfl⟩, S2, hat, hm, hs⟩
  have HC2 := Lib.hid hat
  have HB2 := Lib.hid (wout_below HB.out HS.out hm)
  have HS2 : Hid (∀ b, S2 b → w.heap.size ≤ b) := fun b hb => (hs b hb).elim (HS.out b) (fun h => Nat.le_trans HB.out.size h)
  clear hat hm hs
  go_wp2_with fail
  refine (C.flag HC2.out (by simp [Co.wShort]) true).mono ?_
  rintro e w3 ⟨⟨x, rfl⟩, S3, hat, hm, hs⟩
  have HC3 := Lib.hid hat
  have HB3 := Lib.hid (wout_below HB2.out HS2.out hm)
  clear hat hm hs
  go_wp2_with fail
  refine (C.done HC3.out).mono ?_
  rintro e w4 ⟨x, rfl, hown, hb, _⟩
  obtain ⟨X, c, rfl, hc, hr⟩ := own_form hown
  have HB4 := Lib.hid (HB3.out.trans (hb.mono HB3.out.size))
  have hl : ([] ++ Co.wShort 258 ++ Co.wFlag true) = [1, 2, 1] := by decide
  rw [hl] at hr ⊢
  have hstr : (convert 22 9 (.slice X 3 c)).run Try.prog w4 = .ok (.string ⟨#[1, 2, 1]⟩) w4 := str_any w4 X [1, 2, 1] c hr
  clear hown hb hc hl hr
  go_wp2_with fail
  go_ret
  exact ⟨rfl, HB4.out⟩
end Go.Proofs.Ytpnnikifaalkoaa
