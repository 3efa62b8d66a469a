/-
  OWN WORK. The document's tree: Keep, Seal.
-/
import Derived.Test.YtombmeppdhhjhaaRRfPoke
namespace Go.Proofs.Ytombmeppdhhjhaa
open Go.RowKit Rc
open Tr (Nm En T)
namespace Rf
variable {p : Nat} {nv dv ev : Value} {D : Nat → Prop} {t t' : T} {w w1 w2 : World}
theorem file_at {i : Int} (h0 : Tr.file t i = 0) : ∃ e j, Tr.find t i = some e ∧ t[j]? = some e ∧ idx t i = (j : Nat) ∧ j < t.length ∧ e.nd.kind ≠ 2 ∧ e.nd.id = i := by
  rcases Tr.file_cases t i with ⟨h1, _⟩ | ⟨h1, _⟩ | ⟨_, e, h1, h2⟩
  · rw [h1] at h0; cases h0
  · rw [h1] at h0; cases h0
  · rcases idx_find t i with ⟨h3, _⟩ | ⟨e', j, h3, h4, h5, h6⟩
    · rw [h3] at h1; cases h1
    · rw [h3] at h1
      injection h1 with h1
      subst h1
      exact ⟨e', j, h3, h4, h5, h6, h2, (Tr.find_some h3).2⟩
theorem idx_ris (hr : Tr.Ris t) {i : Int} {j : Nat} {e : En} (hj : t[j]? = some e) (he : e.nd.id = i) : idx t i = (j : Nat) := by
  refine idx_at hj he fun m hm hmi => ?_
  obtain ⟨k, hk, hkm⟩ := List.mem_take_iff_getElem.1 hm
  obtain ⟨hlt, hje⟩ := List.getElem?_eq_some_iff.1 hj
  have := List.pairwise_iff_getElem.1 hr k j (by omega) hlt (by omega)
  rw [hkm, hje] at this
  omega
theorem RA.nvform (h : RA p nv dv ev D t w) (hpos : 0 < t.length) : ∃ g c, nv = .slice (some ⟨g, 0, none⟩) t.length c := by
  obtain ⟨A, c, h1, _, h2⟩ := Tm.own_form h.in_.nodes
  obtain ⟨g, rfl, _⟩ := h2 hpos
  exact ⟨g, c, h1⟩
theorem RA.nodeSrc {g c : Nat} (h : RA p (.slice (some ⟨g, 0, none⟩) t.length c) dv ev D t w) : Src (w.alloc (.cells #[] 38)) (some ⟨g, 0, none⟩) (ndCells t) ∧ (w.alloc (.cells #[] 38)).cell? ⟨p, 0, none⟩ = some (.slice (some ⟨g, 0, none⟩) t.length c) := by
  obtain ⟨A, c2, hnv, _, hS⟩ := srcs h.in_.nodes h.np.1
  injection hnv with e1 _ _
  subst e1
  exact ⟨(hS _ (Mod.of_below (below_new w _) _)).1, (h.below (below_new w _)).in_.box.cell 0⟩
set_option maxHeartbeats 2000000 in
set_option maxRecDepth 100000 in
theorem keep_any (h : RA p nv dv ev D t w) (hG : Tr.Good t) (i : Int) (u : Nat) (hu : u ≤ 18446744073709551615) :
    Calls Try.prog 59 #[.pointer (some ⟨p, 0, none⟩), .int .i64 i, .int .u64 (u : Nat)] w (RTurn p (Tr.keep t i u).2 (.int .i64 ((Tr.keep t i u).1 : Nat)) (RS p nv ev D) w) := by
  have HF := Lib.hid (file_any h.in_ i (by have := hG.few; omega))
  have HS : Hid (∀ x, RTurn p t x (RS p nv ev D) w (.returned x) w) := fun x => RTurn.stay h (Below.refl _ _)
  by_cases h0 : Tr.file t i = 0
  case neg =>
    have HN : Hid (Tr.keep t i u = (Tr.file t i, t)) := by
      show _ = _
      unfold Tr.keep
      rw [if_pos h0]
    rw [HN.out]
    rw [if_neg h0] at HF
    obtain ⟨k, hk⟩ : ∃ k, k = Tr.file t i := ⟨_, rfl⟩
    rw [← hk] at HF h0 ⊢
    have hki : ((k : Int) != 0) = true := by rw [bne_iff_ne]; omega
    clear h hG h0 hk
    go_enter Try.func59, Try.ntmps59
    go_wp2_with fail
    refine HF.out.mono ?_
    rintro e1 w1 ⟨rfl, rfl⟩
    go_wp2_with fail
    go_ret
    exact HS.out _
  rw [if_pos h0, h0] at HF
  obtain ⟨e, j, h1, h2, h3, h4, h5, h6⟩ := file_at h0
  rw [h3] at HF
  have hpos : 0 < t.length := by omega
  obtain ⟨g0, c0, hnv⟩ := h.nvform hpos
  subst hnv
  have HCO : Hid (∀ w2 v2, w2.ownsRow w.heap.size 38 6 v2 t.length (ndCells t) → (w.alloc (.cells #[] 38)).grownBy w2 (Value.slice (some ⟨w.heap.size, 0, none⟩) 0 0).ownBlock → ∃ g c, v2 = .slice (some ⟨g, 0, none⟩) t.length c ∧ w2.cell? ⟨p, 0, none⟩ = some (.slice (some ⟨g0, 0, none⟩) t.length c0) ∧ w2.frozen? ⟨p, 0, none⟩ = false ∧ Hid (Left p t (RS p (.slice (some ⟨g0, 0, none⟩) t.length c0) ev D) w (w2.setCell ⟨p, 0, none⟩ v2) v2 dv ev D)) := fun w2 v2 ho hg => h.copied hpos ho hg
  have HS0 := Lib.hid h.nodeSrc.1
  have HO0 : Hid ((w.alloc (.cells #[] 38)).ownsRow w.heap.size 38 6 (.slice (some ⟨w.heap.size, 0, none⟩) 0 0) 0 []) := none_own w _ _
  have HL0 := Lib.hid (ndCells_length t)
  have HFEW : Hid (t.length ≤ 64) := hG.few
  have HHS : Hid (w.heap.size ≤ (w.alloc (.cells #[] 38)).heap.size) := (below_new w _).size
  have HJ := Lib.hid h2
  have hjl : (j : Int) < (t.length : Int) := by omega
  have cp := h.nodeSrc.2
  have cp0 : w.cell? ⟨p, 0, none⟩ = some (.slice (some ⟨g0, 0, none⟩) t.length c0) := h.in_.box.cell 0
  have d2 : w.cell? ⟨g0, j * 6 + 2, none⟩ = some (.int .i64 e.nd.links) := (h.ndcell h2 2 (by omega)).1
  have d3 : w.cell? ⟨g0, j * 6 + 3, none⟩ = some (.int .i64 e.nd.size) := (h.ndcell h2 3 (by omega)).1
  have d4 : w.cell? ⟨g0, j * 6 + 4, none⟩ = some (.int .u64 (e.nd.till : Nat)) := (h.ndcell h2 4 (by omega)).1
  have d5 : w.cell? ⟨g0, j * 6 + 5, none⟩ = some (.bool e.nd.shut) := (h.ndcell h2 5 (by omega)).1
  have htr : Tr.keep t i u = if e.nd.shut = false then (25, t) else if u < e.nd.till then (28, t) else if 1099511627776 < u then (1, t) else (0, t.set j { e with nd := { e.nd with till := u } }) := by
    unfold Tr.keep
    rw [if_neg (by rw [h0]; simp), Tr.ndOf_of h1, upd_at hG.ris h2 h6]
  have HK := Lib.hid htr
  clear h hG h0 h1 h2 h3 h4 h5 h6 hpos htr
  obtain ⟨sh, hsh⟩ : ∃ sh, sh = e.nd.shut := ⟨_, rfl⟩
  obtain ⟨tl, htl⟩ : ∃ tl, tl = e.nd.till := ⟨_, rfl⟩
  rw [← hsh] at d5 HK
  rw [← htl] at d4 HK
  clear hsh htl
  cases sh with
  | false =>
    have HN : Hid (Tr.keep t i u = (25, t)) := HK.out
    rw [HN.out]
    go_enter Try.func59, Try.ntmps59
    go_wp2_with fail
    refine HF.out.mono ?_
    rintro e1 w1 ⟨rfl, rfl⟩
    go_wp2_with fail
    go_ret
    exact HS.out _
  | true =>
    by_cases k1 : (u : Int) < (tl : Int)
    · have HN : Hid (Tr.keep t i u = (28, t)) := by
        have := HK.out
        rw [if_neg (by simp), if_pos (by omega)] at this
        exact this
      rw [HN.out]
      go_enter Try.func59, Try.ntmps59
      go_wp2_with fail
      refine HF.out.mono ?_
      rintro e1 w1 ⟨rfl, rfl⟩
      go_wp2_with fail
      go_ret
      exact HS.out _
    · by_cases k2 : (1099511627776 : Int) < (u : Int)
      · have HN : Hid (Tr.keep t i u = (1, t)) := by
          have := HK.out
          rw [if_neg (by simp), if_neg (by omega), if_pos (by omega)] at this
          exact this
        rw [HN.out]
        go_enter Try.func59, Try.ntmps59
        go_wp2_with fail
        refine HF.out.mono ?_
        rintro e1 w1 ⟨rfl, rfl⟩
        go_wp2_with fail
        go_ret
        exact HS.out _
      · have HN : Hid (Tr.keep t i u = (0, t.set j { e with nd := { e.nd with till := u } })) := by
          have := HK.out
          rw [if_neg (by simp), if_neg (by omega), if_neg (by omega)] at this
          exact this
        rw [HN.out]
        go_enter Try.func59, Try.ntmps59
        go_wp2_with fail
        refine HF.out.mono ?_
        rintro e1 w1 ⟨rfl, rfl⟩
        go_upto_region 11 with (at_builtin; refine wpList_cat nodeTy rfl (.tmp 43) (.tmp 47) (by rfl) (by rfl) (by rfl) HO0.out HS0.out HL0.out (ndCells_one _) (by have := HFEW.out; omega) HHS.out (Nat.zero_add _).symm (List.nil_append _).symm ?_; intro v2 w2 HO2 HG2 HP2; obtain ⟨g, c2, hv2, hc2, hf2, HLF⟩ := HCO.out w2 v2 HO2.out HG2.out; subst hv2)
        obtain ⟨W3, hW3⟩ : ∃ W3, W3 = w2.setCell ⟨p, 0, none⟩ (.slice (some ⟨g, 0, none⟩) t.length c2) := ⟨_, rfl⟩
        rw [← hW3] at HLF ⊢
        clear hW3 HCO HO2 HG2 HP2 HS0 HO0 HL0 HHS cp cp0 hc2 hf2 d2 d3 d4 d5
        have hra := HLF.out.ra
        have c3 : W3.cell? ⟨p, 0, none⟩ = some (.slice (some ⟨g, 0, none⟩) t.length c2) := hra.in_.box.cell 0
        have d9 : W3.cell? ⟨g, j * 6 + 4, none⟩ = some (.int .u64 (e.nd.till : Nat)) := (hra.ndcell HJ.out 4 (by omega)).1
        have f9 := (hra.ndcell HJ.out 4 (by omega)).2
        have HEND : Hid (RTurn p (t.set j { e with nd := { e.nd with till := u } }) (.int .i64 0) (RS p (.slice (some ⟨g0, 0, none⟩) t.length c0) ev D) w1 (.returned (.int .i64 0)) (W3.setCell ⟨g, j * 6 + 4, none⟩ (.int .u64 (u : Nat)))) := (HLF.out.then (hra.poke (e' := { e with nd := { e.nd with till := u } }) (u := .int .u64 (u : Nat)) HJ.out (f := 4) (by omega) rfl rfl rfl rfl)).turn
        clear hra HLF
        go_wp2_with fail
        go_ret
        exact HEND.out
set_option maxHeartbeats 2000000 in
set_option maxRecDepth 100000 in
theorem seal_any (h : RA p nv dv ev D t w) (hG : Tr.Good t) (i : Int) (u : Nat) (hu : u ≤ 18446744073709551615) :
    Calls Try.prog 58 #[.pointer (some ⟨p, 0, none⟩), .int .i64 i, .int .u64 (u : Nat)] w (RTurn p (Tr.seal_ t i u).2 (.int .i64 ((Tr.seal_ t i u).1 : Nat)) (RS p nv ev D) w) := by
  have HF := Lib.hid (file_any h.in_ i (by have := hG.few; omega))
  have HS : Hid (∀ x, RTurn p t x (RS p nv ev D) w (.returned x) w) := fun x => RTurn.stay h (Below.refl _ _)
  by_cases h0 : Tr.file t i = 0
  case neg =>
    have HN : Hid (Tr.seal_ t i u = (Tr.file t i, t)) := by
      show _ = _
      unfold Tr.seal_
      rw [if_pos h0]
    rw [HN.out]
    rw [if_neg h0] at HF
    obtain ⟨k, hk⟩ : ∃ k, k = Tr.file t i := ⟨_, rfl⟩
    rw [← hk] at HF h0 ⊢
    have hki : ((k : Int) != 0) = true := by rw [bne_iff_ne]; omega
    clear h hG h0 hk
    go_enter Try.func58, Try.ntmps58
    go_wp2_with fail
    refine HF.out.mono ?_
    rintro e1 w1 ⟨rfl, rfl⟩
    go_wp2_with fail
    go_ret
    exact HS.out _
  rw [if_pos h0, h0] at HF
  obtain ⟨e, j, h1, h2, h3, h4, h5, h6⟩ := file_at h0
  rw [h3] at HF
  have hpos : 0 < t.length := by omega
  obtain ⟨g0, c0, hnv⟩ := h.nvform hpos
  subst hnv
  have HCO : Hid (∀ w2 v2, w2.ownsRow w.heap.size 38 6 v2 t.length (ndCells t) → (w.alloc (.cells #[] 38)).grownBy w2 (Value.slice (some ⟨w.heap.size, 0, none⟩) 0 0).ownBlock → ∃ g c, v2 = .slice (some ⟨g, 0, none⟩) t.length c ∧ w2.cell? ⟨p, 0, none⟩ = some (.slice (some ⟨g0, 0, none⟩) t.length c0) ∧ w2.frozen? ⟨p, 0, none⟩ = false ∧ Hid (Left p t (RS p (.slice (some ⟨g0, 0, none⟩) t.length c0) ev D) w (w2.setCell ⟨p, 0, none⟩ v2) v2 dv ev D)) := fun w2 v2 ho hg => h.copied hpos ho hg
  have HS0 := Lib.hid h.nodeSrc.1
  have HO0 : Hid ((w.alloc (.cells #[] 38)).ownsRow w.heap.size 38 6 (.slice (some ⟨w.heap.size, 0, none⟩) 0 0) 0 []) := none_own w _ _
  have HL0 := Lib.hid (ndCells_length t)
  have HFEW : Hid (t.length ≤ 64) := hG.few
  have HHS : Hid (w.heap.size ≤ (w.alloc (.cells #[] 38)).heap.size) := (below_new w _).size
  have HJ := Lib.hid h2
  have hjl : (j : Int) < (t.length : Int) := by omega
  have cp := h.nodeSrc.2
  have cp0 : w.cell? ⟨p, 0, none⟩ = some (.slice (some ⟨g0, 0, none⟩) t.length c0) := h.in_.box.cell 0
  have d2 : w.cell? ⟨g0, j * 6 + 2, none⟩ = some (.int .i64 e.nd.links) := (h.ndcell h2 2 (by omega)).1
  have d3 : w.cell? ⟨g0, j * 6 + 3, none⟩ = some (.int .i64 e.nd.size) := (h.ndcell h2 3 (by omega)).1
  have d4 : w.cell? ⟨g0, j * 6 + 4, none⟩ = some (.int .u64 (e.nd.till : Nat)) := (h.ndcell h2 4 (by omega)).1
  have d5 : w.cell? ⟨g0, j * 6 + 5, none⟩ = some (.bool e.nd.shut) := (h.ndcell h2 5 (by omega)).1
  have hr1 : Tr.Ris (Tr.upd t i (Tr.shutE u)) := Tr.upd_ris hG.ris fun _ => rfl
  have hu1 : Tr.upd t i (Tr.shutE u) = t.set j (Tr.shutE u e) := upd_at hG.ris h2 h6 _
  have htr : Tr.seal_ t i u = if e.nd.shut = true then (27, t) else if 1099511627776 < u then (1, t) else if e.nd.links = 0 then (0, Tr.remove (t.set j (Tr.shutE u e)) i) else (0, t.set j (Tr.shutE u e)) := by
    unfold Tr.seal_
    rw [if_neg (by rw [h0]; simp), Tr.ndOf_of h1, hu1]
  have HK := Lib.hid htr
  rw [hu1] at hr1
  have hj1 : (t.set j (Tr.shutE u e))[j]? = some (Tr.shutE u e) := List.getElem?_set_self h4
  have hnm : e.names = [] := (hG.each e (Tr.find_some h1).1).file (by
    rcases hG.kind (Tr.find_some h1).1 with k | k
    · exact k
    · exact absurd k h5)
  have HGN : Hid (∀ (nv2 dv2 ev2 : Value) (D2 : Nat → Prop) (W : World), RA p nv2 dv2 ev2 D2 (t.set j (Tr.shutE u e)) W → Calls Try.prog 87 #[.pointer (some ⟨p, 0, none⟩), .int .i64 i] W (RTurn p (Tr.remove (t.set j (Tr.shutE u e)) i) (.tuple #[]) (RS p nv2 ev2 D2) W)) := fun nv2 dv2 ev2 D2 W hW =>
    gone_any hW i j (by rw [List.length_set]; exact h4) (idx_ris hr1 hj1 h6) (by rw [List.length_set]; have := hG.few; omega) (remove_at hr1 hj1 h6) (flat_remove fun m hm hmi => by
      have k1 := hr1.find hm
      have k2 := hr1.find (List.mem_of_getElem? hj1)
      rw [show (Tr.shutE u e).nd.id = i from h6] at k2
      rw [hmi, k2] at k1
      injection k1 with k1
      rw [← k1]
      exact hnm)
  clear h hG h0 h1 h2 h3 h4 h5 h6 hpos htr hr1 hu1 hj1 hnm
  obtain ⟨sh, hsh⟩ : ∃ sh, sh = e.nd.shut := ⟨_, rfl⟩
  rw [← hsh] at d5 HK
  clear hsh
  cases sh with
  | true =>
    have HN : Hid (Tr.seal_ t i u = (27, t)) := HK.out
    rw [HN.out]
    go_enter Try.func58, Try.ntmps58
    go_wp2_with fail
    refine HF.out.mono ?_
    rintro e1 w1 ⟨rfl, rfl⟩
    go_wp2_with fail
    go_ret
    exact HS.out _
  | false =>
    by_cases k2 : (1099511627776 : Int) < (u : Int)
    · have HN : Hid (Tr.seal_ t i u = (1, t)) := by
        have := HK.out
        rw [if_neg (by simp), if_pos (by omega)] at this
        exact this
      rw [HN.out]
      go_enter Try.func58, Try.ntmps58
      go_wp2_with fail
      refine HF.out.mono ?_
      rintro e1 w1 ⟨rfl, rfl⟩
      go_wp2_with fail
      go_ret
      exact HS.out _
    · have HN : Hid (Tr.seal_ t i u = if e.nd.links = 0 then (0, Tr.remove (t.set j (Tr.shutE u e)) i) else (0, t.set j (Tr.shutE u e))) := by
        have := HK.out
        rw [if_neg (by simp), if_neg (by omega)] at this
        exact this
      rw [HN.out]
      obtain ⟨R, hR⟩ : ∃ R : Nat × T, R = if e.nd.links = 0 then (0, Tr.remove (t.set j (Tr.shutE u e)) i) else (0, t.set j (Tr.shutE u e)) := ⟨_, rfl⟩
      rw [← hR]
      have HR := Lib.hid hR
      clear hR HN
      go_enter Try.func58, Try.ntmps58
      go_wp2_with fail
      refine HF.out.mono ?_
      rintro e1 w1 ⟨rfl, rfl⟩
      go_upto_region 9 with (at_builtin; refine wpList_cat nodeTy rfl (.tmp 29) (.tmp 33) (by rfl) (by rfl) (by rfl) HO0.out HS0.out HL0.out (ndCells_one _) (by have := HFEW.out; omega) HHS.out (Nat.zero_add _).symm (List.nil_append _).symm ?_; intro v2 w2 HO2 HG2 HP2; obtain ⟨g, c2, hv2, hc2, hf2, HLF⟩ := HCO.out w2 v2 HO2.out HG2.out; subst hv2)
      obtain ⟨W3, hW3⟩ : ∃ W3, W3 = w2.setCell ⟨p, 0, none⟩ (.slice (some ⟨g, 0, none⟩) t.length c2) := ⟨_, rfl⟩
      rw [← hW3] at HLF ⊢
      clear hW3 HCO HO2 HG2 HP2 HS0 HO0 HL0 HHS cp cp0 hc2 hf2 d2 d3 d4 d5
      have hra := HLF.out.ra
      have c3 : W3.cell? ⟨p, 0, none⟩ = some (.slice (some ⟨g, 0, none⟩) t.length c2) := hra.in_.box.cell 0
      have d9 : W3.cell? ⟨g, j * 6 + 5, none⟩ = some (.bool e.nd.shut) := (hra.ndcell HJ.out 5 (by omega)).1
      have f9 := (hra.ndcell HJ.out 5 (by omega)).2
      have hlf2 := HLF.out.then (hra.poke (e' := { e with nd := { e.nd with shut := true } }) (u := .bool true) HJ.out (f := 5) (by omega) rfl rfl rfl rfl)
      have HLF2 := Lib.hid hlf2
      clear hlf2 hra HLF
      go_upto_region 10 with (fail)
      obtain ⟨W4, hW4⟩ : ∃ W4, W4 = W3.setCell ⟨g, j * 6 + 5, none⟩ (.bool true) := ⟨_, rfl⟩
      rw [← hW4] at HLF2 ⊢
      clear hW4 c3 d9 f9
      have hlen : t.length = (t.set j { e with nd := { e.nd with shut := true } }).length := by rw [List.length_set]
      have HLF3 : Hid (Left p (t.set j { e with nd := { e.nd with shut := true } }) (RS p (.slice (some ⟨g0, 0, none⟩) t.length c0) ev D) w1 W4 (.slice (some ⟨g, 0, none⟩) (t.set j { e with nd := { e.nd with shut := true } }).length c2) dv ev D) := by
        rw [← hlen]; exact HLF2.out
      have hra := HLF3.out.ra
      have hj2 : (t.set j { e with nd := { e.nd with shut := true } })[j]? = some { e with nd := { e.nd with shut := true } } := List.getElem?_set_self (by omega)
      have c3 : W4.cell? ⟨p, 0, none⟩ = some (.slice (some ⟨g, 0, none⟩) t.length c2) := HLF2.out.ra.in_.box.cell 0
      have d9 : W4.cell? ⟨g, j * 6 + 4, none⟩ = some (.int .u64 (e.nd.till : Nat)) := (hra.ndcell hj2 4 (by omega)).1
      have f9 := (hra.ndcell hj2 4 (by omega)).2
      have hlf4 := HLF3.out.then (hra.poke (e' := Tr.shutE u e) (u := .int .u64 (u : Nat)) hj2 (f := 4) (by omega) rfl rfl rfl rfl)
      rw [List.set_set] at hlf4
      have HLF4 := Lib.hid hlf4
      clear hlf4 hra HLF3 HLF2 hj2
      rw [← hlen] at HLF4
      clear hlen
      go_upto_region 11 with (fail)
      obtain ⟨W5, hW5⟩ : ∃ W5, W5 = W4.setCell ⟨g, j * 6 + 4, none⟩ (.int .u64 (u : Nat)) := ⟨_, rfl⟩
      rw [← hW5] at HLF4 ⊢
      clear hW5 c3 d9 f9
      have c3 : W5.cell? ⟨p, 0, none⟩ = some (.slice (some ⟨g, 0, none⟩) t.length c2) := HLF4.out.ra.in_.box.cell 0
      have hjn : j < t.length := by omega
      have hj3 : (t.set j (Tr.shutE u e))[j]? = some (Tr.shutE u e) := List.getElem?_set_self hjn
      have hra5 : RA p (.slice (some ⟨g, 0, none⟩) (t.set j (Tr.shutE u e)).length c2) dv ev D (t.set j (Tr.shutE u e)) W5 := by rw [List.length_set]; exact HLF4.out.ra
      have d9 : W5.cell? ⟨g, j * 6 + 2, none⟩ = some (.int .i64 e.nd.links) := (hra5.ndcell hj3 2 (by omega)).1
      have HGN5 := Lib.hid (HGN.out _ _ _ _ W5 HLF4.out.ra)
      clear hra5 hj3 HGN HK
      by_cases hlk : e.nd.links = 0
      · have hR := HR.out
        rw [if_pos hlk] at hR
        subst hR
        rw [hlk] at d9
        clear hlk
        go_wp2_with fail
        refine HGN5.out.mono ?_
        intro r W6 hturn
        obtain ⟨rfl, nv6, dv6, ev6, D6, hl6⟩ := hturn.left
        have HEND : Hid (RTurn p (Tr.remove (t.set j (Tr.shutE u e)) i) (.int .i64 0) (RS p (.slice (some ⟨g0, 0, none⟩) t.length c0) ev D) w1 (.returned (.int .i64 0)) W6) := (HLF4.out.then hl6).turn
        clear hturn hl6
        go_wp2_with fail
        go_ret
        exact HEND.out
      · have hR := HR.out
        rw [if_neg hlk] at hR
        subst hR
        have hlb : (e.nd.links == 0) = false := by rw [beq_eq_false_iff_ne]; exact hlk
        have HEND : Hid (RTurn p (t.set j (Tr.shutE u e)) (.int .i64 0) (RS p (.slice (some ⟨g0, 0, none⟩) t.length c0) ev D) w1 (.returned (.int .i64 0)) W5) := HLF4.out.turn
        clear hlk
        go_wp2_with fail
        go_ret
        exact HEND.out
end Rf
end Go.Proofs.Ytombmeppdhhjhaa
