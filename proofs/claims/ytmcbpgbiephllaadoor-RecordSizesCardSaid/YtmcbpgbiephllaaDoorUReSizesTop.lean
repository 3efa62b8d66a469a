/-
  OWN WORK. The statement RecordSizes holds of the code at this commit, for all of its arguments: a record has fifteen bytes and its body's; bytes behind it don't matter, bytes that lack do; no condition beside the statement's own.
-/
import Derived.Test.YtmcbpgbiephllaaDoorU03
import Derived.Test.YtmcbpgbiephllaaDoorUCpWCode
import Derived.Test.YtmcbpgbiephllaaDoorU04
import Derived.Test.YtmcbpgbiephllaaDoorCards
import Derived.Test.YtmcbpgbiephllaaDoorTie
import Derived.SevenTiedAt
namespace Go.Proofs.YtmcbpgbiephllaaDoor
open Go.ChangeShapes Go.WideShapes Go.RowKit Go.Deep
open Go.ChangeMaps (open_string shut_string)

set_option maxRecDepth 100000 in
theorem recordSizes_lifted (os : Os) (started : os.Started) (H : Type) (enc : TypeId × Value → H) :
    ReturnsInHanded {} Tryd.checked os 6 .any (fun w args => (Rows.recordSizesSpec.pre enc Tryd.prog Tryd.f6 [] false w args ∧ laidMetH Tryd.prog [("permafrost/crc.halves", Rows.laid_permafrost_crc_halves)] w) ∧ sizedMet enc Tryd.prog Tryd.f6 (OpenSpec.ofChange Rows.recordSizesSpec) false w args)
      (Rows.recordSizesSpec.post enc Tryd.prog Tryd.f6 false true false false) := by
  refine returnsInHanded_of_change_and (C := Tryd.checked) (X := fun w _ => laidMetH Tryd.prog [("permafrost/crc.halves", Rows.laid_permafrost_crc_halves)] w) (fun _ _ _ hh h => h.of_heap hh) Tryd.own started (by kernel_rfl) Tryd.func6
    (ChangeSpec.witness_at (enc := enc) (C := Tryd.checked) (os := os) (X := fun w _ => laidMetH Tryd.prog [("permafrost/crc.halves", Rows.laid_permafrost_crc_halves)] w) false (laidWorld os) #[.agg #[.int .i64 0, .int .u64 0, .slice none 0 0], .slice none 0 0, .int .i64 0] 8 rfl (by kernel_rfl) (by kernel_rfl) (by kernel_rfl) (by kernel_rfl) (by kernel_rfl) (laidWorld_met os _)) ?_
  intro W base args ds gs before hval0 hW _ _ hL _
  have hval : ∀ (j : Nat) t v, Tryd.f6.params[j]? = some t → args[j]? = some v → Value.okWide Tryd.prog W .any base t v := hval0
  have hW' := hW
  obtain ⟨p, q, hA0, hV0, rfl, hfz, hnd⟩ := hW
  have hA : DataW.TrodAll enc Tryd.prog W 0 (fun _ => true) true Tryd.f6.params.toList args.toList ds p := hA0
  have hV : DataW.TrodVars enc Tryd.prog W (fun _ => true) [] gs q := hV0
  rw [Tryd.params6] at hA hval
  obtain ⟨v0, v1, v2, d0, d1, d2, p0, p1, p2, rfl, rfl, rfl, h0, h1, h2⟩ := trodAll_three hA
  have hE := env_of W hL
  obtain ⟨rfl, rfl⟩ : gs = [] ∧ q = [] := by
    cases gs with
    | nil => exact ⟨rfl, hV⟩
    | cons g r => exact absurd hV (by intro h; cases h)
  obtain ⟨rc0, A0, c0, hok0, rfl⟩ := Re.rec_of (hval 0 27 v0 rfl rfl) h0
  have h0k := h0
  obtain ⟨a1, len1, cap1, rfl⟩ := okWide_slice Tryd.underlying25 (hval 1 25 v1 rfl rfl)
  have h1k := h1
  obtain ⟨n2, rfl, rfl, rfl, wf2⟩ := open_int Tryd.underlying3 (hval 2 3 v2 rfl rfl) h2
  have bd2 := bounds_i64 wf2
  simp only [List.append_nil, List.nil_append] at hW'
  have hlt0 : ∀ x ∈ p0, x.block < W.heap.size := fun x hx => by simpa using hW'.lt x (by simp [hx])
  have hlt1 : ∀ x ∈ p1, x.block < W.heap.size := fun x hx => by simpa using hW'.lt x (by simp [hx])
  obtain ⟨fuel1, hf1⟩ := h1
  obtain ⟨l1, A1, c1, e1, hc1, hb1, hr1⟩ := bytes_of (by simpa [Value.cells] using hf1)
  rw [e1] at h1k hW' ⊢
  refine (Re.sizes_any wsaid sum_said W rc0 A0 c0 hok0 l1 A1 c1 hr1 hc1 hb1 n2 bd2 hE).mono fun e W' ⟨he, hb⟩ => ?_
  subst he
  refine ⟨_, rfl, _, _, _, [], p0 ++ (p1 ++ []), [], hW', ?_, ?_, ?_, hb.frame _, fun h => by cases h⟩
  · exact trodAll_mk1 (shut_bool Tryd.underlying4 true)
  · exact trodAll_mk3 (Below.trod Tryd.laidOut (by kernel_rfl) (of_decide_eq_true (by kernel_rfl)) h0k hb hlt0) (Below.trod Tryd.laidOut (by kernel_rfl) (of_decide_eq_true (by kernel_rfl)) h1k hb hlt1) (shut_int Tryd.underlying3 wf2)
  · rfl

theorem RecordSizes_said : Rows.RecordSizesSaid :=
  OpenClaim.holds_of_wide 6 Tryd.f6 rfl rfl rfl rfl rfl rfl rfl ⟨rfl, rfl, rfl, rfl, rfl⟩ rfl rfl rfl rfl rfl (by kernel_rfl) Tryd.func6 (by kernel_rfl)
    (of_decide_eq_true (by kernel_rfl)) (by unfold Func.isWrapper; rw [if_neg (of_decide_eq_false (by kernel_rfl))]; exact ⟨rfl, rfl⟩)
    (fun os started H enc _ => recordSizes_lifted os started H enc)

theorem recordSizes_proved : Rows.RecordSizesCardSaid :=
  Claim7.holds_tied_plain_at .later [] [.data] true (true, "d0f6fb6386b4bb7aced98818a1a9afc67489a23eacca2bebd09205e642e163ec") false
    RecordSizes_said (fun _ h => by cases h) (by kernel_rfl) (fun _ h => by cases h) recordSizes_row_tie rfl ⟨rfl, rfl⟩ (by kernel_rfl) rfl
    (fun f fn hf hfn => by
      obtain rfl : f = 6 := Option.some.inj ((show Tryd.prog.funcNamed "permafrost/permafrostlaw16.RecordSizes" = some 6 by kernel_rfl).symm.trans hf) |>.symm
      obtain rfl : fn = Tryd.f6 := (Option.some.inj (Tryd.func6.symm.trans hfn)).symm
      exact ⟨by kernel_rfl, fun j t ht => by
        rw [Tryd.params6] at ht
        have hj : j < 3 := by
          have := (Array.getElem?_eq_some_iff.1 ht).1
          simpa using this
        have hall : ∀ k, k < 3 → ∀ u, (#[27, 25, 3] : Array TypeId)[k]? = some u → Tryd.prog.wantsStandIn u = false := by
          intro k hk u hu
          match k, hk with
          | 0, _ => obtain rfl : 27 = u := by simpa using hu
                    exact (show Tryd.prog.wantsStandIn 27 = false by kernel_rfl)
          | 1, _ => obtain rfl : 25 = u := by simpa using hu
                    exact (show Tryd.prog.wantsStandIn 25 = false by kernel_rfl)
          | 2, _ => obtain rfl : 3 = u := by simpa using hu
                    exact (show Tryd.prog.wantsStandIn 3 = false by kernel_rfl)
        exact hall j hj t ht
      ⟩)
    (by kernel_rfl)
end Go.Proofs.YtmcbpgbiephllaaDoor
