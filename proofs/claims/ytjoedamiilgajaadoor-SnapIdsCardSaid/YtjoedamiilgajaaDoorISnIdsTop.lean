/-
  OWN WORK. The statement SnapIds holds of the code at this commit, for all of its arguments: IDs rise, and never come again, whatever is forgotten; no condition beside the statement's own.
-/
import Derived.Test.YtjoedamiilgajaaDoorI02
import Derived.Test.YtjoedamiilgajaaDoorI12
import Derived.Test.YtjoedamiilgajaaDoorCards
import Derived.Test.YtjoedamiilgajaaDoorTie
import Derived.SevenTiedAt
namespace Go.Proofs.YtjoedamiilgajaaDoor
open Go.ChangeShapes Go.WideShapes Go.RowKit Go.Deep
open Go.ChangeMaps (open_string shut_string)

set_option maxRecDepth 100000 in
theorem snapIds_lifted (os : Os) (started : os.Started) (H : Type) (enc : TypeId × Value → H) :
    ReturnsInHanded {} Tryd.checked os 3 .any (fun w args => (Rows.snapIdsSpec.pre enc Tryd.prog Tryd.f3 [] false w args ∧ laidMetH Tryd.prog [("permafrost/sha.roundWords", Rows.laid_permafrost_sha_roundWords)] w) ∧ sizedMet enc Tryd.prog Tryd.f3 (OpenSpec.ofChange Rows.snapIdsSpec) false w args)
      (Rows.snapIdsSpec.post enc Tryd.prog Tryd.f3 false true false false) := by
  refine returnsInHanded_of_change_and (C := Tryd.checked) (X := fun w _ => laidMetH Tryd.prog [("permafrost/sha.roundWords", Rows.laid_permafrost_sha_roundWords)] w) (fun _ _ _ hh h => h.of_heap hh) Tryd.own started (by kernel_rfl) Tryd.func3
    (ChangeSpec.witness_at (enc := enc) (C := Tryd.checked) (os := os) (X := fun w _ => laidMetH Tryd.prog [("permafrost/sha.roundWords", Rows.laid_permafrost_sha_roundWords)] w) false (laidWorld os) #[.slice none 0 0] 8 rfl (by kernel_rfl) (by kernel_rfl) (by kernel_rfl) (by kernel_rfl) (by kernel_rfl) (laidWorld_met os _)) ?_
  intro W base args ds gs before hval0 hW _ _ hL _
  have hval : ∀ (j : Nat) t v, Tryd.f3.params[j]? = some t → args[j]? = some v → Value.okWide Tryd.prog W .any base t v := hval0
  have hW' := hW
  obtain ⟨p, q, hA0, hV0, rfl, hfz, hnd⟩ := hW
  have hA : DataW.TrodAll enc Tryd.prog W 0 (fun _ => true) true Tryd.f3.params.toList args.toList ds p := hA0
  have hV : DataW.TrodVars enc Tryd.prog W (fun _ => true) [] gs q := hV0
  rw [Tryd.params3] at hA hval
  obtain ⟨v0, d0, rfl, rfl, h0⟩ := trodAll_one hA
  obtain ⟨p0, hp0⟩ : ∃ x, x = p := ⟨_, rfl⟩
  subst hp0
  have hK : KAt W := kat_of_laid hL
  obtain ⟨rfl, rfl⟩ : gs = [] ∧ q = [] := by
    cases gs with
    | nil => exact ⟨rfl, hV⟩
    | cons g r => exact absurd hV (by intro h; cases h)
  obtain ⟨a0, len0, cap0, rfl⟩ := okWide_slice Tryd.underlying22 (hval 0 22 v0 rfl rfl)
  have h0k := h0
  simp only [List.append_nil] at hW'
  have hlt0 : ∀ x ∈ p0, x.block < W.heap.size := fun x hx => by simpa using hW'.lt x (by simp [hx])
  obtain ⟨fuel0, hf0⟩ := h0
  obtain ⟨l0, A0, c0, e0, hc0, hb0, hr0⟩ := asksN_of (by simpa [Value.cells] using hf0)
  rw [e0] at h0k hW' ⊢
  refine (Sn.ids_any W l0 A0 c0 hr0 hb0 hK).mono fun e W' ⟨he, hb⟩ => ?_
  subst he
  refine ⟨_, rfl, _, _, _, [], p0, [], hW', ?_, ?_, ?_, hb.frame _, fun h => by cases h⟩
  · exact trodAll_mk1 (shut_bool Tryd.underlying4 true)
  · exact trodAll_mk1 (Below.trod Tryd.laidOut (by kernel_rfl) (of_decide_eq_true (by kernel_rfl)) h0k hb hlt0)
  · rfl

theorem SnapIds_said : Rows.SnapIdsSaid :=
  OpenClaim.holds_of_wide 3 Tryd.f3 rfl rfl rfl rfl rfl rfl rfl ⟨rfl, rfl, rfl, rfl, rfl⟩ rfl rfl rfl rfl rfl (by kernel_rfl) Tryd.func3 (by kernel_rfl)
    (of_decide_eq_true (by kernel_rfl)) (by unfold Func.isWrapper; rw [if_neg (of_decide_eq_false (by kernel_rfl))]; exact ⟨rfl, rfl⟩)
    (fun os started H enc _ => snapIds_lifted os started H enc)

theorem snapIds_proved : Rows.SnapIdsCardSaid :=
  Claim7.holds_tied_plain_at .later [] [.data] true (true, "32f82fd6182d0685bf1f1bc0f5e8d237d2566f051e55fd2ef37cede4f5f49688") false
    SnapIds_said (fun _ h => by cases h) (by kernel_rfl) (fun _ h => by cases h) snapIds_row_tie rfl ⟨rfl, rfl⟩ (by kernel_rfl) rfl
    (fun f fn hf hfn => by
      obtain rfl : f = 3 := Option.some.inj ((show Tryd.prog.funcNamed "permafrost/permafrostlaw13.SnapIds" = some 3 by kernel_rfl).symm.trans hf) |>.symm
      obtain rfl : fn = Tryd.f3 := (Option.some.inj (Tryd.func3.symm.trans hfn)).symm
      exact ⟨by kernel_rfl, fun j t ht => by
        rw [Tryd.params3] at ht
        have hj : j < 1 := by
          have := (Array.getElem?_eq_some_iff.1 ht).1
          simpa using this
        have hall : ∀ k, k < 1 → ∀ u, (#[22] : Array TypeId)[k]? = some u → Tryd.prog.wantsStandIn u = false := by
          intro k hk u hu
          match k, hk with
          | 0, _ => obtain rfl : 22 = u := by simpa using hu
                    exact (show Tryd.prog.wantsStandIn 22 = false by kernel_rfl)
        exact hall j hj t ht
      ⟩)
    (by kernel_rfl)
end Go.Proofs.YtjoedamiilgajaaDoor
