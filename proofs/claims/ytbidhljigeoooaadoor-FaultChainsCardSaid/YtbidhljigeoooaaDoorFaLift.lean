/-
  OWN WORK. FaultChains, FaultUnwraps, FaultOuter: the rows, given what package fault's calls do.
-/
import Derived.Test.YtbidhljigeoooaaDoorFaLiftN
import Derived.Test.YtbidhljigeoooaaDoorFaUnwraps
import Derived.Carry
import Derived.OpenShut
namespace Go.Proofs.YtbidhljigeoooaaDoor
open Go.ChangeShapes Go.WideShapes Go.RowKit Go.Deep
open Go.ChangeMaps (open_string shut_string)

theorem Tryd.laidOut : laidOutB Tryd.prog = true := by kernel_rfl
theorem Tryd.cellsLink : Tryd.prog.cellsOf 45 = 2 := by kernel_rfl
theorem Tryd.cellsStr : Tryd.prog.cellsOf 9 = 1 := by kernel_rfl

theorem max_le {n : Nat} (h : n ≤ maxLen) : n ≤ 9223372036854775807 := by unfold maxLen at h; omega

/-- A law's slice of links, read as data, as it lies in memory. -/
theorem links_of {H : Type} {enc : TypeId × Value → H} {W : World} {fuel : Nat} {v : Value} {x : DataW H × List MemPlace}
    (h : DataW.trod enc Tryd.prog W 0 (fun _ => true) true fuel 40 [v] = some x) :
    ∃ ls : List (ByteArray × ByteArray), LinksAt W ls v ∧ ls.length ≤ 9223372036854775807 ∧ ∀ q ∈ ls, q.1.size ≤ 9223372036854775807 ∧ q.2.size ≤ 9223372036854775807 := by
  rcases open_slice Tryd.underlying40 h with ⟨hcs, _⟩ | ⟨a, len, cap, m, n, D, Pl, hcs, _, hl, hm, hmm, _, hi⟩
  · simp only [List.cons.injEq, and_true] at hcs
    exact ⟨[], .inl ⟨rfl, _, _, hcs⟩, by simp, by simp⟩
  · simp only [List.cons.injEq, and_true] at hcs
    subst hcs
    simp only [if_true] at hmm
    have key : ∀ i, i < len → ∃ s1 s2 : ByteArray, W.cell? (a.add (i * 2)) = some (.string s1) ∧ W.cell? ((a.add (i * 2)).add 1) = some (.string s2) ∧ s1.size ≤ maxLen ∧ s2.size ≤ maxLen := by
      intro i hil
      obtain ⟨cs', hc, ht⟩ := hi i (by omega)
      rw [Tryd.cellsLink] at hc
      obtain ⟨_, hcl, hat⟩ := World.cells?_some hc
      obtain ⟨y0, y1, n', _, _, t0, t1⟩ := trod_struct2 Tryd.underlying45 ht
      obtain ⟨c0, c1, rfl⟩ : ∃ c0 c1, cs' = [c0, c1] := by
        rcases cs' with _ | ⟨c0, _ | ⟨c1, _ | ⟨c2, r⟩⟩⟩
        · simp at hcl
        · simp at hcl
        · exact ⟨_, _, rfl⟩
        · simp at hcl
      rw [Tryd.cellsStr] at t0 t1
      obtain ⟨s1, e1, _, z1⟩ := DataW.trod_string Tryd.underlying9 t0
      obtain ⟨s2, e2, _, z2⟩ := DataW.trod_string Tryd.underlying9 t1
      simp only [List.drop_zero, List.drop_succ_cons, List.take_succ_cons, List.take_zero, List.cons.injEq, and_true] at e1 e2
      subst e1 e2
      have h0 := hat 0 (by omega)
      have h1 := hat 1 (by omega)
      have h0' : W.cell? (a.add (i * 2)) = some (.string s1) := by
        have e : (a.add (i * 2)).add 0 = a.add (i * 2) := by unfold Addr.add; simp
        rw [e] at h0; exact h0
      exact ⟨s1, s2, h0', h1, z1, z2⟩
    have hplain : 0 < len → ∃ b off, a = ⟨b, off, none⟩ := by
      intro hp
      obtain ⟨s1, s2, h0, _⟩ := key 0 hp
      have hs := World.cell?_spot h0
      obtain ⟨b, off, spot⟩ := a
      have : spot = none := by
        unfold Addr.add at hs
        simpa using hs
      exact ⟨b, off, by rw [this]⟩
    have hf : ∀ i : Fin len, ∃ q : ByteArray × ByteArray, W.cell? (a.add (i * 2)) = some (.string q.1) ∧ W.cell? ((a.add (i * 2)).add 1) = some (.string q.2) ∧ q.1.size ≤ maxLen ∧ q.2.size ≤ maxLen := fun i => by
      obtain ⟨s1, s2, h⟩ := key i i.2
      exact ⟨(s1, s2), h⟩
    obtain ⟨f, hf'⟩ := Classical.axiomOfChoice hf
    refine ⟨List.ofFn f, ?_, by rw [List.length_ofFn]; exact max_le (Nat.le_trans hl hm), ?_⟩
    · by_cases hp : 0 < len
      · obtain ⟨b, off, rfl⟩ := hplain hp
        refine .inr ⟨b, off, cap, by rw [List.length_ofFn], by rw [List.length_ofFn]; exact hl, hm, fun k q hq => ?_⟩
        have hk : k < len := by
          have := (List.getElem?_eq_some_iff.1 hq).1
          simpa using this
        have e : q = f ⟨k, hk⟩ := by
          rw [List.getElem?_ofFn, dif_pos hk] at hq
          exact (Option.some.inj hq).symm
        subst e
        have g := hf' ⟨k, hk⟩
        simp only [add_plain] at g
        exact ⟨g.1, g.2.1⟩
      · have h0 : len = 0 := by omega
        subst h0
        exact .inl ⟨by simp, _, _, rfl⟩
    · intro q hq
      obtain ⟨i, rfl⟩ := List.mem_ofFn.1 hq
      exact ⟨max_le (hf' i).2.2.1, max_le (hf' i).2.2.2⟩

set_option maxRecDepth 100000 in
theorem faultUnwraps_lifted (S : AllSaid) (os : Os) (started : os.Started) (H : Type) (enc : TypeId × Value → H) :
    ReturnsInHanded {} Tryd.checked os 5 .any (fun w args => (Rows.faultUnwrapsSpec.pre enc Tryd.prog Tryd.f5 [] false w args ∧ laidMetH Tryd.prog [("errors.errorType", Rows.laid_errors_errorType)] w) ∧ sizedMet enc Tryd.prog Tryd.f5 (OpenSpec.ofChange Rows.faultUnwrapsSpec) false w args)
      (Rows.faultUnwrapsSpec.post enc Tryd.prog Tryd.f5 false true false false) := by
  refine returnsInHanded_of_change_and (C := Tryd.checked) (X := fun w _ => laidMetH Tryd.prog [("errors.errorType", Rows.laid_errors_errorType)] w) (fun _ _ _ hh h => h.of_heap hh) Tryd.own started (by kernel_rfl) Tryd.func5
    (ChangeSpec.witness_at (enc := enc) (C := Tryd.checked) (os := os) (X := fun w _ => laidMetH Tryd.prog [("errors.errorType", Rows.laid_errors_errorType)] w) false (laidWorld os) #[.slice none 0 0, .int .i64 0] 8 rfl (by kernel_rfl) (by kernel_rfl) (by kernel_rfl) (by kernel_rfl) (by kernel_rfl) (laidWorld_met os _)) ?_
  intro W base args ds gs before hval0 hW _ _ hL _
  have hval : ∀ (j : Nat) t v, Tryd.f5.params[j]? = some t → args[j]? = some v → Value.okWide Tryd.prog W .any base t v := hval0
  have hW' := hW
  obtain ⟨p, q, hA0, hV0, rfl, hfz, hnd⟩ := hW
  have hA : DataW.TrodAll enc Tryd.prog W 0 (fun _ => true) true Tryd.f5.params.toList args.toList ds p := hA0
  have hV : DataW.TrodVars enc Tryd.prog W (fun _ => true) [] gs q := hV0
  rw [Tryd.params5] at hA hval
  obtain ⟨v0, v1, d0, d1, p0, p1, rfl, rfl, rfl, h0, h1⟩ := trodAll_two hA
  have hg := errT_of_laid hL
  obtain ⟨rfl, rfl⟩ : gs = [] ∧ q = [] := by
    cases gs with
    | nil => exact ⟨rfl, hV⟩
    | cons g r => exact absurd hV (by intro h; cases h)
  obtain ⟨c, rfl, rfl, rfl, wc⟩ := open_int Tryd.underlying3 (hval 1 3 v1 rfl rfl) h1
  have bdc := bounds_i64 wc
  obtain ⟨a0, len, cap, rfl⟩ := okWide_slice Tryd.underlying40 (hval 0 40 v0 rfl rfl)
  have h0k := h0
  obtain ⟨fuel, hf⟩ := h0
  simp only [List.append_nil] at hW'
  have hlt : ∀ x ∈ p0, x.block < W.heap.size := fun x hx => by simpa using hW'.lt x (by simp [hx])
  obtain ⟨ls, hls, hlen, hsz⟩ := links_of (by simpa [Value.cells] using hf)
  obtain ⟨v', hcut, hls'⟩ := cut_links 30 hls
  have hr := withinI_ge c 1 300 (by omega)
  have hr2 := withinI_le c 1 300 (by omega)
  obtain ⟨n, hn⟩ : ∃ n : Nat, withinI c 1 300 = n := ⟨(withinI c 1 300).toNat, by omega⟩
  refine (unwraps_any S.wrap S.error S.code S.depth (ls.take 30) _ v' ls.length c n W hcut hls' (by rw [List.length_take]; omega) hg (fun q hq => hsz q (List.mem_of_mem_take hq)) hn (by omega) (by omega) bdc.1 bdc.2 hlen).mono fun e W' ⟨he, hb⟩ => ?_
  subst he
  refine ⟨_, rfl, _, _, _, [], p0 ++ [], [], hW', ?_, ?_, ?_, hb.frame _, fun h => by cases h⟩
  · exact trodAll_mk1 (shut_bool Tryd.underlying4 true)
  · exact trodAll_mk2 (Below.trod Tryd.laidOut (by kernel_rfl) (of_decide_eq_true (by kernel_rfl)) h0k hb hlt) (shut_int Tryd.underlying3 wc)
  · rfl

theorem FaultUnwraps_said (S : AllSaid) : Rows.FaultUnwrapsSaid :=
  OpenClaim.holds_of_wide 5 Tryd.f5 rfl rfl rfl rfl rfl rfl rfl ⟨rfl, rfl, rfl, rfl, rfl⟩ rfl rfl rfl rfl rfl (by kernel_rfl) Tryd.func5 (by kernel_rfl)
    (of_decide_eq_true (by kernel_rfl)) (by unfold Func.isWrapper; rw [if_neg (of_decide_eq_false (by kernel_rfl))]; exact ⟨rfl, rfl⟩)
    (fun os started H enc _ => faultUnwraps_lifted S os started H enc)

set_option maxRecDepth 100000 in
theorem faultOuter_lifted (S : AllSaid) (os : Os) (started : os.Started) (H : Type) (enc : TypeId × Value → H) :
    ReturnsInHanded {} Tryd.checked os 6 .any (fun w args => (Rows.faultOuterSpec.pre enc Tryd.prog Tryd.f6 [] false w args ∧ laidMetH Tryd.prog [("errors.errorType", Rows.laid_errors_errorType)] w) ∧ sizedMet enc Tryd.prog Tryd.f6 (OpenSpec.ofChange Rows.faultOuterSpec) false w args)
      (Rows.faultOuterSpec.post enc Tryd.prog Tryd.f6 false true false false) := by
  refine returnsInHanded_of_change_and (C := Tryd.checked) (X := fun w _ => laidMetH Tryd.prog [("errors.errorType", Rows.laid_errors_errorType)] w) (fun _ _ _ hh h => h.of_heap hh) Tryd.own started (by kernel_rfl) Tryd.func6
    (ChangeSpec.witness_at (enc := enc) (C := Tryd.checked) (os := os) (X := fun w _ => laidMetH Tryd.prog [("errors.errorType", Rows.laid_errors_errorType)] w) false (laidWorld os) #[.slice none 0 0, .int .i64 0, .string ByteArray.empty, .string ByteArray.empty] 8 rfl (by kernel_rfl) (by kernel_rfl) (by kernel_rfl) (by kernel_rfl) (by kernel_rfl) (laidWorld_met os _)) ?_
  intro W base args ds gs before hval0 hW _ _ hL _
  have hval : ∀ (j : Nat) t v, Tryd.f6.params[j]? = some t → args[j]? = some v → Value.okWide Tryd.prog W .any base t v := hval0
  have hW' := hW
  obtain ⟨p, q, hA0, hV0, rfl, hfz, hnd⟩ := hW
  have hA : DataW.TrodAll enc Tryd.prog W 0 (fun _ => true) true Tryd.f6.params.toList args.toList ds p := hA0
  have hV : DataW.TrodVars enc Tryd.prog W (fun _ => true) [] gs q := hV0
  rw [Tryd.params6] at hA hval
  obtain ⟨v0, v1, v2, v3, d0, d1, d2, d3, p0, p1, p2, p3, rfl, rfl, rfl, h0, h1, h2, h3⟩ := trodAll_four hA
  have hg := errT_of_laid hL
  obtain ⟨rfl, rfl⟩ : gs = [] ∧ q = [] := by
    cases gs with
    | nil => exact ⟨rfl, hV⟩
    | cons g r => exact absurd hV (by intro h; cases h)
  obtain ⟨c, rfl, rfl, rfl, wc⟩ := open_int Tryd.underlying3 (hval 1 3 v1 rfl rfl) h1
  have bdc := bounds_i64 wc
  obtain ⟨op, rfl, rfl, rfl, wop⟩ := open_string Tryd.underlying9 (hval 2 9 v2 rfl rfl) h2
  obtain ⟨path, rfl, rfl, rfl, wpath⟩ := open_string Tryd.underlying9 (hval 3 9 v3 rfl rfl) h3
  obtain ⟨a0, len, cap, rfl⟩ := okWide_slice Tryd.underlying40 (hval 0 40 v0 rfl rfl)
  have h0k := h0
  obtain ⟨fuel, hf⟩ := h0
  simp only [List.append_nil] at hW'
  have hlt : ∀ x ∈ p0, x.block < W.heap.size := fun x hx => by simpa using hW'.lt x (by simp [hx])
  obtain ⟨ls, hls, hlen, hsz⟩ := links_of (by simpa [Value.cells] using hf)
  obtain ⟨v', hcut, hls'⟩ := cut_links 20 hls
  have hr := withinI_ge c 1 300 (by omega)
  have hr2 := withinI_le c 1 300 (by omega)
  obtain ⟨n, hn⟩ : ∃ n : Nat, withinI c 1 300 = n := ⟨(withinI c 1 300).toNat, by omega⟩
  refine (outer_any S.wrap S.error S.code S.is S.wher S.depth (ls.take 20) _ v' ls.length c op path n W hcut hls' (by rw [List.length_take]; omega) hg (fun q hq => hsz q (List.mem_of_mem_take hq)) hn (by omega) (by omega) bdc.1 bdc.2 hlen (max_le wop) (max_le wpath)).mono fun e W' ⟨he, hb⟩ => ?_
  subst he
  refine ⟨_, rfl, _, _, _, [], p0 ++ [], [], hW', ?_, ?_, ?_, hb.frame _, fun h => by cases h⟩
  · exact trodAll_mk1 (shut_bool Tryd.underlying4 true)
  · exact trodAll_mk4 (Below.trod Tryd.laidOut (by kernel_rfl) (of_decide_eq_true (by kernel_rfl)) h0k hb hlt) (shut_int Tryd.underlying3 wc) (shut_string Tryd.underlying9 wop) (shut_string Tryd.underlying9 wpath)
  · rfl

theorem FaultOuter_said (S : AllSaid) : Rows.FaultOuterSaid :=
  OpenClaim.holds_of_wide 6 Tryd.f6 rfl rfl rfl rfl rfl rfl rfl ⟨rfl, rfl, rfl, rfl, rfl⟩ rfl rfl rfl rfl rfl (by kernel_rfl) Tryd.func6 (by kernel_rfl)
    (of_decide_eq_true (by kernel_rfl)) (by unfold Func.isWrapper; rw [if_neg (of_decide_eq_false (by kernel_rfl))]; exact ⟨rfl, rfl⟩)
    (fun os started H enc _ => faultOuter_lifted S os started H enc)

set_option maxRecDepth 100000 in
theorem faultChains_lifted (S : AllSaid) (os : Os) (started : os.Started) (H : Type) (enc : TypeId × Value → H) :
    ReturnsInHanded {} Tryd.checked os 4 .any (fun w args => (Rows.faultChainsSpec.pre enc Tryd.prog Tryd.f4 [] false w args ∧ laidMetH Tryd.prog [("errors.errorType", Rows.laid_errors_errorType)] w) ∧ sizedMet enc Tryd.prog Tryd.f4 (OpenSpec.ofChange Rows.faultChainsSpec) false w args)
      (Rows.faultChainsSpec.post enc Tryd.prog Tryd.f4 false true false false) := by
  refine returnsInHanded_of_change_and (C := Tryd.checked) (X := fun w _ => laidMetH Tryd.prog [("errors.errorType", Rows.laid_errors_errorType)] w) (fun _ _ _ hh h => h.of_heap hh) Tryd.own started (by kernel_rfl) Tryd.func4
    (ChangeSpec.witness_at (enc := enc) (C := Tryd.checked) (os := os) (X := fun w _ => laidMetH Tryd.prog [("errors.errorType", Rows.laid_errors_errorType)] w) false (laidWorld os) #[.slice none 0 0, .int .i64 0, .int .i64 0] 8 rfl (by kernel_rfl) (by kernel_rfl) (by kernel_rfl) (by kernel_rfl) (by kernel_rfl) (laidWorld_met os _)) ?_
  intro W base args ds gs before hval0 hW _ _ hL _
  have hval : ∀ (j : Nat) t v, Tryd.f4.params[j]? = some t → args[j]? = some v → Value.okWide Tryd.prog W .any base t v := hval0
  have hW' := hW
  obtain ⟨p, q, hA0, hV0, rfl, hfz, hnd⟩ := hW
  have hA : DataW.TrodAll enc Tryd.prog W 0 (fun _ => true) true Tryd.f4.params.toList args.toList ds p := hA0
  have hV : DataW.TrodVars enc Tryd.prog W (fun _ => true) [] gs q := hV0
  rw [Tryd.params4] at hA hval
  obtain ⟨v0, v1, v2, d0, d1, d2, p0, p1, p2, rfl, rfl, rfl, h0, h1, h2⟩ := trodAll_three hA
  have hg := errT_of_laid hL
  obtain ⟨rfl, rfl⟩ : gs = [] ∧ q = [] := by
    cases gs with
    | nil => exact ⟨rfl, hV⟩
    | cons g r => exact absurd hV (by intro h; cases h)
  obtain ⟨c, rfl, rfl, rfl, wc⟩ := open_int Tryd.underlying3 (hval 1 3 v1 rfl rfl) h1
  have bdc := bounds_i64 wc
  obtain ⟨a, rfl, rfl, rfl, wa⟩ := open_int Tryd.underlying3 (hval 2 3 v2 rfl rfl) h2
  have bda := bounds_i64 wa
  obtain ⟨a0, len, cap, rfl⟩ := okWide_slice Tryd.underlying40 (hval 0 40 v0 rfl rfl)
  have h0k := h0
  obtain ⟨fuel, hf⟩ := h0
  simp only [List.append_nil] at hW'
  have hlt : ∀ x ∈ p0, x.block < W.heap.size := fun x hx => by simpa using hW'.lt x (by simp [hx])
  obtain ⟨ls, hls, hlen, hsz⟩ := links_of (by simpa [Value.cells] using hf)
  obtain ⟨v', hcut, hls'⟩ := cut_links 30 hls
  have hr := withinI_ge c 0 300 (by omega)
  have hr2 := withinI_le c 0 300 (by omega)
  obtain ⟨n, hn⟩ : ∃ n : Nat, withinI c 0 300 = n := ⟨(withinI c 0 300).toNat, by omega⟩
  have hboth : Calls Tryd.prog 4 #[.slice a0 len cap, .int .i64 c, .int .i64 a] W fun e w' => e = .returned (.bool true) ∧ Below W.heap.size W w' := by
    by_cases hz : n = 0
    · exact chains_zero S.wrap S.wrapNone S.error S.code S.codeNil S.depth (ls.take 30) _ v' ls.length c a W hcut hls' (by rw [List.length_take]; omega) hg (fun q hq => hsz q (List.mem_of_mem_take hq)) (by rw [hn, hz]; rfl) bdc.1 bdc.2 hlen
    · exact chains_num S.wrap S.error S.code S.is S.wher S.depth (ls.take 30) _ v' ls.length c a n W hcut hls' (by rw [List.length_take]; omega) hg (fun q hq => hsz q (List.mem_of_mem_take hq)) hn (by omega) (by omega) bdc.1 bdc.2 hlen
  refine hboth.mono fun e W' ⟨he, hb⟩ => ?_
  subst he
  refine ⟨_, rfl, _, _, _, [], p0 ++ [], [], hW', ?_, ?_, ?_, hb.frame _, fun h => by cases h⟩
  · exact trodAll_mk1 (shut_bool Tryd.underlying4 true)
  · exact trodAll_mk3 (Below.trod Tryd.laidOut (by kernel_rfl) (of_decide_eq_true (by kernel_rfl)) h0k hb hlt) (shut_int Tryd.underlying3 wc) (shut_int Tryd.underlying3 wa)
  · rfl

theorem FaultChains_said (S : AllSaid) : Rows.FaultChainsSaid :=
  OpenClaim.holds_of_wide 4 Tryd.f4 rfl rfl rfl rfl rfl rfl rfl ⟨rfl, rfl, rfl, rfl, rfl⟩ rfl rfl rfl rfl rfl (by kernel_rfl) Tryd.func4 (by kernel_rfl)
    (of_decide_eq_true (by kernel_rfl)) (by unfold Func.isWrapper; rw [if_neg (of_decide_eq_false (by kernel_rfl))]; exact ⟨rfl, rfl⟩)
    (fun os started H enc _ => faultChains_lifted S os started H enc)
end Go.Proofs.YtbidhljigeoooaaDoor
