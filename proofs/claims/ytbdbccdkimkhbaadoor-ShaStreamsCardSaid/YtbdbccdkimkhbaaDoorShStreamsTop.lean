/-
  OWN WORK. The statement ShaStreams holds of the code at this commit, for all of its arguments: two streams that are written the same bytes in unlike pieces have one sum; no condition beside the statement's own.
-/
import Derived.Test.YtbdbccdkimkhbaaDoorShFrame
import Derived.Test.YtbdbccdkimkhbaaDoorShStreams
import Derived.Test.YtbdbccdkimkhbaaDoorCards
import Derived.Test.YtbdbccdkimkhbaaDoorTie
import Derived.SevenTiedAt
namespace Go.Proofs.YtbdbccdkimkhbaaDoor
open Go.ChangeShapes Go.WideShapes Go.RowKit Go.Deep Sh

set_option maxRecDepth 100000 in
theorem shaStreams_lifted (os : Os) (started : os.Started) (H : Type) (enc : TypeId × Value → H) :
    ReturnsInHanded {} Tryd.checked os 6 .any (fun w args => (Rows.shaStreamsSpec.pre enc Tryd.prog Tryd.f6 [] false w args ∧ laidMetH Tryd.prog [("permafrost/sha.roundWords", Rows.laid_permafrost_sha_roundWords)] w) ∧ sizedMet enc Tryd.prog Tryd.f6 (OpenSpec.ofChange Rows.shaStreamsSpec) false w args)
      (Rows.shaStreamsSpec.post enc Tryd.prog Tryd.f6 false true false false) := by
  refine returnsInHanded_of_change_and (C := Tryd.checked) (X := fun w _ => laidMetH Tryd.prog [("permafrost/sha.roundWords", Rows.laid_permafrost_sha_roundWords)] w) (fun _ _ _ hh h => h.of_heap hh) Tryd.own started (by kernel_rfl) Tryd.func6
    (ChangeSpec.witness_at (enc := enc) (C := Tryd.checked) (os := os) (X := fun w _ => laidMetH Tryd.prog [("permafrost/sha.roundWords", Rows.laid_permafrost_sha_roundWords)] w) false (laidWorld os) #[.slice none 0 0, .slice none 0 0, .slice none 0 0, .slice none 0 0] 8 rfl (by kernel_rfl) (by kernel_rfl) (by kernel_rfl) (by kernel_rfl) (by kernel_rfl) (laidWorld_met os _)) ?_
  intro W base args ds gs before hval0 hW _ _ hL _
  have hval : ∀ (j : Nat) t v, Tryd.f6.params[j]? = some t → args[j]? = some v → Value.okWide Tryd.prog W .any base t v := hval0
  have hW' := hW
  obtain ⟨p, q, hA0, hV0, rfl, hfz, hnd⟩ := hW
  have hA : DataW.TrodAll enc Tryd.prog W 0 (fun _ => true) true Tryd.f6.params.toList args.toList ds p := hA0
  have hV : DataW.TrodVars enc Tryd.prog W (fun _ => true) [] gs q := hV0
  rw [Tryd.params6] at hA hval
  obtain ⟨v0, v1, v2, v3, d0, d1, d2, d3, p0, p1, p2, p3, rfl, rfl, rfl, h0, h1, h2, h3⟩ := trodAll_four hA
  have hK := kat_of_laid hL
  obtain ⟨rfl, rfl⟩ : gs = [] ∧ q = [] := by
    cases gs with
    | nil => exact ⟨rfl, hV⟩
    | cons g r => exact absurd hV (by intro h; cases h)
  obtain ⟨a0, len0, cap0, rfl⟩ := okWide_slice Tryd.underlying22 (hval 0 22 v0 rfl rfl)
  obtain ⟨a1, len1, cap1, rfl⟩ := okWide_slice Tryd.underlying30 (hval 1 30 v1 rfl rfl)
  obtain ⟨a2, len2, cap2, rfl⟩ := okWide_slice Tryd.underlying30 (hval 2 30 v2 rfl rfl)
  obtain ⟨a3, len3, cap3, rfl⟩ := okWide_slice Tryd.underlying22 (hval 3 22 v3 rfl rfl)
  have h0k := h0
  have h1k := h1
  have h2k := h2
  have h3k := h3
  simp only [List.append_nil] at hW'
  have hlt0 : ∀ x ∈ p0, x.block < W.heap.size := fun x hx => by simpa using hW'.lt x (by simp [hx])
  have hlt1 : ∀ x ∈ p1, x.block < W.heap.size := fun x hx => by simpa using hW'.lt x (by simp [hx])
  have hlt2 : ∀ x ∈ p2, x.block < W.heap.size := fun x hx => by simpa using hW'.lt x (by simp [hx])
  have hlt3 : ∀ x ∈ p3, x.block < W.heap.size := fun x hx => by simpa using hW'.lt x (by simp [hx])
  obtain ⟨fuel0, hf0⟩ := h0
  obtain ⟨l0, A0, c0, e0, hc0, hb0, hr0⟩ := bytes_of (by simpa [Value.cells] using hf0)
  rw [e0] at h0k hW' ⊢
  obtain ⟨fuel1, hf1⟩ := h1
  obtain ⟨l1, A1, c1, e1, hc1, hb1, hr1⟩ := ints_of (by simpa [Value.cells] using hf1)
  rw [e1] at h1k hW' ⊢
  obtain ⟨fuel2, hf2⟩ := h2
  obtain ⟨l2, A2, c2, e2, hc2, hb2, hr2⟩ := ints_of (by simpa [Value.cells] using hf2)
  rw [e2] at h2k hW' ⊢
  obtain ⟨fuel3, hf3⟩ := h3
  obtain ⟨l3, A3, c3, e3, hc3, hb3, hr3⟩ := bytes_of (by simpa [Value.cells] using hf3)
  rw [e3] at h3k hW' ⊢
  refine (streams_any W l0 l3 l1 l2 A0 A1 A2 A3 c0 c1 c2 c3 hr0 hc0 hr1 hr2 hr3 hc3 hK hb0 hb1 hb2 hb3).mono fun e W' ⟨he, hb⟩ => ?_
  subst he
  refine ⟨_, rfl, _, _, _, [], p0 ++ (p1 ++ (p2 ++ p3)), [], hW', ?_, ?_, ?_, hb.frame _, fun h => by cases h⟩
  · exact trodAll_mk1 (shut_bool Tryd.underlying4 true)
  · exact trodAll_mk4 (Below.trod Tryd.laidOut (by kernel_rfl) (of_decide_eq_true (by kernel_rfl)) h0k hb hlt0) (Below.trod Tryd.laidOut (by kernel_rfl) (of_decide_eq_true (by kernel_rfl)) h1k hb hlt1) (Below.trod Tryd.laidOut (by kernel_rfl) (of_decide_eq_true (by kernel_rfl)) h2k hb hlt2) (Below.trod Tryd.laidOut (by kernel_rfl) (of_decide_eq_true (by kernel_rfl)) h3k hb hlt3)
  · rfl

theorem ShaStreams_said : Rows.ShaStreamsSaid :=
  OpenClaim.holds_of_wide 6 Tryd.f6 rfl rfl rfl rfl rfl rfl rfl ⟨rfl, rfl, rfl, rfl, rfl⟩ rfl rfl rfl rfl rfl (by kernel_rfl) Tryd.func6 (by kernel_rfl)
    (of_decide_eq_true (by kernel_rfl)) (by unfold Func.isWrapper; rw [if_neg (of_decide_eq_false (by kernel_rfl))]; exact ⟨rfl, rfl⟩)
    (fun os started H enc _ => shaStreams_lifted os started H enc)

theorem shaStreams_proved : Rows.ShaStreamsCardSaid :=
  Claim7.holds_tied_plain_at .later [] [.data] true (true, "2252daac0611e02c38cf9a7a5516c845676765a2c25be8569ff02acf56582827") false
    ShaStreams_said (fun _ h => by cases h) (by kernel_rfl) (fun _ h => by cases h) shaStreams_row_tie rfl ⟨rfl, rfl⟩ (by kernel_rfl) rfl
    (fun f fn hf hfn => by
      obtain rfl : f = 6 := Option.some.inj ((show Tryd.prog.funcNamed "permafrost/permafrostlaw2.ShaStreams" = some 6 by kernel_rfl).symm.trans hf) |>.symm
      obtain rfl : fn = Tryd.f6 := (Option.some.inj (Tryd.func6.symm.trans hfn)).symm
      exact ⟨by kernel_rfl, fun j t ht => by
        rw [Tryd.params6] at ht
        have hj : j < 4 := by
          have := (Array.getElem?_eq_some_iff.1 ht).1
          simpa using this
        have hall : ∀ k, k < 4 → ∀ u, (#[22, 30, 30, 22] : Array TypeId)[k]? = some u → Tryd.prog.wantsStandIn u = false := by
          intro k hk u hu
          match k, hk with
          | 0, _ => obtain rfl : 22 = u := by simpa using hu
                    exact (show Tryd.prog.wantsStandIn 22 = false by kernel_rfl)
          | 1, _ => obtain rfl : 30 = u := by simpa using hu
                    exact (show Tryd.prog.wantsStandIn 30 = false by kernel_rfl)
          | 2, _ => obtain rfl : 30 = u := by simpa using hu
                    exact (show Tryd.prog.wantsStandIn 30 = false by kernel_rfl)
          | 3, _ => obtain rfl : 22 = u := by simpa using hu
                    exact (show Tryd.prog.wantsStandIn 22 = false by kernel_rfl)
        exact hall j hj t ht
      ⟩)
    (by kernel_rfl)
end Go.Proofs.YtbdbccdkimkhbaaDoor
