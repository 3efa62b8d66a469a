/-
  OWN WORK. The statement RecordNumbers holds of the code at this commit, for all of its arguments: chapter 16, its runs, and one for each refusal; no condition beside the statement's own.
-/
import Derived.Test.YtmcbpgbiephllaaDoorW04
import Derived.Test.YtmcbpgbiephllaaDoorWCpWCode
import Derived.Test.YtmcbpgbiephllaaDoorW07
import Derived.Test.YtmcbpgbiephllaaDoorCards
import Derived.Test.YtmcbpgbiephllaaDoorTie
import Derived.SevenTiedAt
namespace Go.Proofs.YtmcbpgbiephllaaDoor
open Go.ChangeShapes Go.WideShapes Go.RowKit Go.Deep
open Go.ChangeMaps (open_string shut_string)

set_option maxRecDepth 100000 in
theorem recordNumbers_lifted (os : Os) (started : os.Started) (H : Type) (enc : TypeId × Value → H) :
    ReturnsInHanded {} Tryd.checked os 3 .any (fun w args => (Rows.recordNumbersSpec.pre enc Tryd.prog Tryd.f3 [] false w args ∧ laidMetH Tryd.prog [("permafrost/crc.halves", Rows.laid_permafrost_crc_halves)] w) ∧ sizedMet enc Tryd.prog Tryd.f3 (OpenSpec.ofChange Rows.recordNumbersSpec) false w args)
      (Rows.recordNumbersSpec.post enc Tryd.prog Tryd.f3 false true false false) := by
  refine returnsInHanded_of_change_and (C := Tryd.checked) (X := fun w _ => laidMetH Tryd.prog [("permafrost/crc.halves", Rows.laid_permafrost_crc_halves)] w) (fun _ _ _ hh h => h.of_heap hh) Tryd.own started (by kernel_rfl) Tryd.func3
    (ChangeSpec.witness_at (enc := enc) (C := Tryd.checked) (os := os) (X := fun w _ => laidMetH Tryd.prog [("permafrost/crc.halves", Rows.laid_permafrost_crc_halves)] w) false (laidWorld os) #[] 8 rfl (by kernel_rfl) (by kernel_rfl) (by kernel_rfl) (by kernel_rfl) (by kernel_rfl) (laidWorld_met os _)) ?_
  intro W base args ds gs before hval0 hW _ _ hL _
  have hval : ∀ (j : Nat) t v, Tryd.f3.params[j]? = some t → args[j]? = some v → Value.okWide Tryd.prog W .any base t v := hval0
  have hW' := hW
  obtain ⟨p, q, hA0, hV0, rfl, hfz, hnd⟩ := hW
  have hA : DataW.TrodAll enc Tryd.prog W 0 (fun _ => true) true Tryd.f3.params.toList args.toList ds p := hA0
  have hV : DataW.TrodVars enc Tryd.prog W (fun _ => true) [] gs q := hV0
  rw [Tryd.params3] at hA hval
  obtain ⟨rfl, rfl, rfl⟩ := trodAll_none hA
  have hE := env_of W hL
  obtain ⟨rfl, rfl⟩ : gs = [] ∧ q = [] := by
    cases gs with
    | nil => exact ⟨rfl, hV⟩
    | cons g r => exact absurd hV (by intro h; cases h)
  have e1 : Rows.recordNumbersSpec.fn H ([] ++ []) = { results := [.lit (.bool true)], args := [] } := by simp [Rows.recordNumbersSpec]
  refine (Re.numbers_any wsaid sum_said W hE).mono fun e W' ⟨he, hb⟩ => ?_
  subst he
  refine ⟨_, rfl, _, _, _, [], [], [], hW', ?_, ?_, ?_, hb.frame _, fun h => by cases h⟩
  · rw [e1]; exact trodAll_mk1 (shut_bool Tryd.underlying4 true)
  · rw [e1]; exact trodAll_mk0
  · rw [e1]; rfl

theorem RecordNumbers_said : Rows.RecordNumbersSaid :=
  OpenClaim.holds_of_wide 3 Tryd.f3 rfl rfl rfl rfl rfl rfl rfl ⟨rfl, rfl, rfl, rfl, rfl⟩ rfl rfl rfl rfl rfl (by kernel_rfl) Tryd.func3 (by kernel_rfl)
    (of_decide_eq_true (by kernel_rfl)) (by unfold Func.isWrapper; rw [if_neg (of_decide_eq_false (by kernel_rfl))]; exact ⟨rfl, rfl⟩)
    (fun os started H enc _ => recordNumbers_lifted os started H enc)

theorem recordNumbers_proved : Rows.RecordNumbersCardSaid :=
  Claim7.holds_tied_plain_at .later [] [.data] true (true, "d0f6fb6386b4bb7aced98818a1a9afc67489a23eacca2bebd09205e642e163ec") false
    RecordNumbers_said (fun _ h => by cases h) (by kernel_rfl) (fun _ h => by cases h) recordNumbers_row_tie rfl ⟨rfl, rfl⟩ (by kernel_rfl) rfl
    (fun f fn hf hfn => by
      obtain rfl : f = 3 := Option.some.inj ((show Tryd.prog.funcNamed "permafrost/permafrostlaw16.RecordNumbers" = some 3 by kernel_rfl).symm.trans hf) |>.symm
      obtain rfl : fn = Tryd.f3 := (Option.some.inj (Tryd.func3.symm.trans hfn)).symm
      exact ⟨by kernel_rfl, fun j t ht => by
        rw [Tryd.params3] at ht
        simp at ht
      ⟩)
    (by kernel_rfl)
end Go.Proofs.YtmcbpgbiephllaaDoor
