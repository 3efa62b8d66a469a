/-
  OWN WORK. The statement CrcTurned holds of the code at this commit, for all of its arguments: up to four bytes in a row that are turned turn the sum; no condition beside the statement's own.
-/
import Derived.Test.YtdopgnfggpdfoaaDoorBaFrame
import Derived.Test.YtdopgnfggpdfoaaDoorCrCode
import Derived.Test.YtdopgnfggpdfoaaDoorCrTurned
import Derived.Test.YtdopgnfggpdfoaaDoorCards
import Derived.Test.YtdopgnfggpdfoaaDoorTie
import Derived.SevenTiedAt
namespace Go.Proofs.YtdopgnfggpdfoaaDoor
open Go.ChangeShapes Go.WideShapes Go.RowKit Go.Deep
open Go.ChangeMaps (open_string shut_string)

set_option maxRecDepth 100000 in
theorem crcTurned_lifted (os : Os) (started : os.Started) (H : Type) (enc : TypeId × Value → H) :
    ReturnsInHanded {} Tryd.checked os 5 .any (fun w args => (Rows.crcTurnedSpec.pre enc Tryd.prog Tryd.f5 [] false w args ∧ laidMetH Tryd.prog [("permafrost/crc.halves", Rows.laid_permafrost_crc_halves)] w) ∧ sizedMet enc Tryd.prog Tryd.f5 (OpenSpec.ofChange Rows.crcTurnedSpec) false w args)
      (Rows.crcTurnedSpec.post enc Tryd.prog Tryd.f5 false true false false) := by
  refine returnsInHanded_of_change_and (C := Tryd.checked) (X := fun w _ => laidMetH Tryd.prog [("permafrost/crc.halves", Rows.laid_permafrost_crc_halves)] w) (fun _ _ _ hh h => h.of_heap hh) Tryd.own started (by kernel_rfl) Tryd.func5
    (ChangeSpec.witness_at (enc := enc) (C := Tryd.checked) (os := os) (X := fun w _ => laidMetH Tryd.prog [("permafrost/crc.halves", Rows.laid_permafrost_crc_halves)] w) false (laidWorld os) #[.slice none 0 0, .int .i64 0, .slice none 0 0] 8 rfl (by kernel_rfl) (by kernel_rfl) (by kernel_rfl) (by kernel_rfl) (by kernel_rfl) (laidWorld_met os _)) ?_
  intro W base args ds gs before hval0 hW _ _ hL _
  have hval : ∀ (j : Nat) t v, Tryd.f5.params[j]? = some t → args[j]? = some v → Value.okWide Tryd.prog W .any base t v := hval0
  have hW' := hW
  obtain ⟨p, q, hA0, hV0, rfl, hfz, hnd⟩ := hW
  have hA : DataW.TrodAll enc Tryd.prog W 0 (fun _ => true) true Tryd.f5.params.toList args.toList ds p := hA0
  have hV : DataW.TrodVars enc Tryd.prog W (fun _ => true) [] gs q := hV0
  rw [Tryd.params5] at hA hval
  obtain ⟨v0, v1, v2, d0, d1, d2, p0, p1, p2, rfl, rfl, rfl, h0, h1, h2⟩ := trodAll_three hA
  have hE := env_of W hL
  obtain ⟨rfl, rfl⟩ : gs = [] ∧ q = [] := by
    cases gs with
    | nil => exact ⟨rfl, hV⟩
    | cons g r => exact absurd hV (by intro h; cases h)
  obtain ⟨a0, len0, cap0, rfl⟩ := okWide_slice Tryd.underlying22 (hval 0 22 v0 rfl rfl)
  have h0k := h0
  obtain ⟨n1, rfl, rfl, rfl, wf1⟩ := open_int Tryd.underlying3 (hval 1 3 v1 rfl rfl) h1
  have bd1 := bounds_i64 wf1
  obtain ⟨a2, len2, cap2, rfl⟩ := okWide_slice Tryd.underlying22 (hval 2 22 v2 rfl rfl)
  have h2k := h2
  simp only [List.append_nil, List.nil_append] at hW'
  have hlt0 : ∀ x ∈ p0, x.block < W.heap.size := fun x hx => by simpa using hW'.lt x (by simp [hx])
  have hlt2 : ∀ x ∈ p2, x.block < W.heap.size := fun x hx => by simpa using hW'.lt x (by simp [hx])
  obtain ⟨fuel0, hf0⟩ := h0
  obtain ⟨l0, A0, c0, e0, hc0, hb0, hr0⟩ := bytes_of (by simpa [Value.cells] using hf0)
  rw [e0] at h0k hW' ⊢
  obtain ⟨fuel2, hf2⟩ := h2
  obtain ⟨l2, A2, c2, e2, hc2, hb2, hr2⟩ := bytes_of (by simpa [Value.cells] using hf2)
  rw [e2] at h2k hW' ⊢
  refine (turned_any sum_said more_said W l0 l2 n1 A0 A2 c0 c2 hr0 hc0 hb0 bd1 hr2 hc2 hb2 hE).mono fun e W' ⟨he, hb⟩ => ?_
  subst he
  refine ⟨_, rfl, _, _, _, [], p0 ++ ([] ++ p2), [], hW', ?_, ?_, ?_, hb.frame _, fun h => by cases h⟩
  · exact trodAll_mk1 (shut_bool Tryd.underlying4 true)
  · exact trodAll_mk3 (Below.trod Tryd.laidOut (by kernel_rfl) (of_decide_eq_true (by kernel_rfl)) h0k hb hlt0) (shut_int Tryd.underlying3 wf1) (Below.trod Tryd.laidOut (by kernel_rfl) (of_decide_eq_true (by kernel_rfl)) h2k hb hlt2)
  · rfl

theorem CrcTurned_said : Rows.CrcTurnedSaid :=
  OpenClaim.holds_of_wide 5 Tryd.f5 rfl rfl rfl rfl rfl rfl rfl ⟨rfl, rfl, rfl, rfl, rfl⟩ rfl rfl rfl rfl rfl (by kernel_rfl) Tryd.func5 (by kernel_rfl)
    (of_decide_eq_true (by kernel_rfl)) (by unfold Func.isWrapper; rw [if_neg (of_decide_eq_false (by kernel_rfl))]; exact ⟨rfl, rfl⟩)
    (fun os started H enc _ => crcTurned_lifted os started H enc)

theorem crcTurned_proved : Rows.CrcTurnedCardSaid :=
  Claim7.holds_tied_plain_at .later [] [.data] true (true, "32d21268f4e3ca5c53eb8d17e9cb676bf49a5aa9d9eb9a5278f295d6a9d6683e") false
    CrcTurned_said (fun _ h => by cases h) (by kernel_rfl) (fun _ h => by cases h) crcTurned_row_tie rfl ⟨rfl, rfl⟩ (by kernel_rfl) rfl
    (fun f fn hf hfn => by
      obtain rfl : f = 5 := Option.some.inj ((show Tryd.prog.funcNamed "permafrost/permafrostlaw3.CrcTurned" = some 5 by kernel_rfl).symm.trans hf) |>.symm
      obtain rfl : fn = Tryd.f5 := (Option.some.inj (Tryd.func5.symm.trans hfn)).symm
      exact ⟨by kernel_rfl, fun j t ht => by
        rw [Tryd.params5] at ht
        have hj : j < 3 := by
          have := (Array.getElem?_eq_some_iff.1 ht).1
          simpa using this
        have hall : ∀ k, k < 3 → ∀ u, (#[22, 3, 22] : Array TypeId)[k]? = some u → Tryd.prog.wantsStandIn u = false := by
          intro k hk u hu
          match k, hk with
          | 0, _ => obtain rfl : 22 = u := by simpa using hu
                    exact (show Tryd.prog.wantsStandIn 22 = false by kernel_rfl)
          | 1, _ => obtain rfl : 3 = u := by simpa using hu
                    exact (show Tryd.prog.wantsStandIn 3 = false by kernel_rfl)
          | 2, _ => obtain rfl : 22 = u := by simpa using hu
                    exact (show Tryd.prog.wantsStandIn 22 = false by kernel_rfl)
        exact hall j hj t ht
      ⟩)
    (by kernel_rfl)
end Go.Proofs.YtdopgnfggpdfoaaDoor
