/-
  OWN WORK. PathTells: the law's walk, where the texts are together at most 1048576 bytes.
-/
import Derived.Test.YtmdffakhejdkoaaPaKnown
import Derived.Deep.CutBlock
import Derived.Deep.CutRange
namespace Go.Proofs.Ytmdffakhejdkoaa
open Go.RowKit

/-- A list of texts that is at most twenty long, and where it lies in all later worlds. -/
def Few (w : World) (A : Option Addr) (l : List Bs) : Prop := (∀ x, Below w.heap.size w x → RdS x A l) ∧ (joined l).length ≤ 1048576
theorem Few.take {w : World} {A : Option Addr} {l : List Bs} (h : Few w A l) (k : Nat) : Few w A (l.take k) := ⟨fun x hx => (h.1 x hx).take k, Nat.le_trans (joined_take_le l k) h.2⟩
theorem snoc_of {l : List Bs} (h : l ≠ []) : ∃ q x, l = q ++ [x] := ⟨l.dropLast, l.getLast h, (List.dropLast_concat_getLast h).symm⟩

set_option maxHeartbeats 8000000 in
set_option maxRecDepth 100000 in
theorem tells_any (s : Bs) (l0 : List Bs) (A : Option Addr) (cap : Nat) (o0 : List Bs) (B : Option Addr) (cap2 : Nat) (w : World) (hs : s.length ≤ 9223372036854775807) (hr : RdS w A l0) (hc : l0.length ≤ cap) (hj : (joined l0).length ≤ 1048576) (hr2 : RdS w B o0) (hc2 : o0.length ≤ cap2) (hj2 : (joined o0).length ≤ 1048576)
    (hl : l0.length ≤ 9223372036854775807) (ho : o0.length ≤ 9223372036854775807) :
    Calls Try.prog 4 #[.string (strOf s), .slice A l0.length cap, .slice B o0.length cap2] w fun e w' => e = .returned (.bool true) ∧ Below w.heap.size w w' := by
  obtain ⟨t, ht⟩ : ∃ t, t = s.take 300 := ⟨_, rfl⟩
  have htl : t.length ≤ 300 := by rw [ht, List.length_take]; omega
  have HH : Hid (∀ wx, Calls Try.prog 12 #[.string (strOf s), .int .i64 300] wx fun e w' => e = .returned (.string (strOf t)) ∧ wx = w') := fun wx => by rw [ht]; exact head_any s 300 wx hs (by omega)
  have HF1 : Hid (Few w A l0) := ⟨fun x hx => hr.below hx, hj⟩
  have HF2 : Hid (Few w B o0) := ⟨fun x hx => hr2.below hx, hj2⟩
  clear ht hr hr2 hj hj2
  go_enter Try.func4, Try.ntmps4
  go_wp2_with fail
  refine (HH.out _).mono ?_
  rintro e wx ⟨rfl, rfl⟩
  go_upto_if 14 with (fail)
  go_cut [1] (fun t1 wx => ∃ l : List Bs, l.length ≤ 20 ∧ l.length ≤ cap ∧ t1 = .slice A l.length cap ∧ Hid (Few w A l) ∧ Hid (Below w.heap.size w wx))
  case first =>
    by_cases h : 20 < l0.length
    · have hsl : ∀ W, (Instr.sliceAt 22 (.slice A l0.length cap) none (some (.int .i64 20)) none).run Try.prog W = .ok (.slice A 20 cap) W := fun W => sls_h W _ _ cap 20 (by omega)
      have HK : Hid ((l0.take 20).length = 20) := by show _ = _; rw [List.length_take]; omega
      go_wp2_with fail
      go_meet
      case rel => exact ⟨l0.take 20, by rw [HK.out]; exact Nat.le_refl _, by rw [HK.out]; omega, by rw [HK.out], HF1.out.take 20, Below.refl _ _⟩
    · go_wp2_with fail
      go_meet
      case rel => exact ⟨l0, by omega, hc, rfl, HF1, Below.refl _ _⟩
  case rest =>
    clear HF1 hc hl
    obtain ⟨l, hl20, hlc, rfl, HF1, HB0⟩ := hcut
    go_upto_if 19 with (fail)
    go_cut [2] (fun t2 wx => ∃ (o : List Bs) (wr : World), wr = wx ∧ o.length ≤ 20 ∧ o.length ≤ cap2 ∧ t2 = .slice B o.length cap2 ∧ Hid (Few w B o) ∧ Hid (Below w.heap.size w wx))
    case first =>
      by_cases h : 20 < o0.length
      · have hsl : ∀ W, (Instr.sliceAt 22 (.slice B o0.length cap2) none (some (.int .i64 20)) none).run Try.prog W = .ok (.slice B 20 cap2) W := fun W => sls_h W _ _ cap2 20 (by omega)
        have HK : Hid ((o0.take 20).length = 20) := by show _ = _; rw [List.length_take]; omega
        go_wp2_with fail
        go_meet
        case rel => exact ⟨o0.take 20, _, rfl, by rw [HK.out]; exact Nat.le_refl _, by rw [HK.out]; omega, by rw [HK.out], HF2.out.take 20, HB0⟩
      · go_wp2_with fail
        go_meet
        case rel => exact ⟨o0, _, rfl, by omega, hc2, rfl, HF2, HB0⟩
    case rest =>
      clear HF2 hc2 ho HB0
      obtain ⟨o, wr, hwr, ho20, hoc, rfl, HF2, HB0⟩ := hcut
      subst hwr
      have HR : Hid (∀ x, Below w.heap.size w x → RdS x A l) := HF1.out.1
      have HS : Hid (∀ x, Below w.heap.size w x → RdS x B o) := HF2.out.1
      have HJ : Hid ((joined l).length ≤ 140737488355328) := Nat.le_trans HF1.out.2 (by decide)
      have HJJ : Hid ((Pa.join l).length ≤ 1000000000) := by
        show _ ≤ _
        by_cases h : l = []
        · rw [h]; decide
        · rw [join_of h]; exact Nat.le_trans HF1.out.2 (by decide)
      clear HF1 HF2
      by_cases hl0 : l = []
      · have HP0 : Calls Try.prog 8 #[.slice A l.length cap] wr fun e w' => e = .returned (.tuple #[.slice none 0 0, .string (strOf []), .int .i64 1]) ∧ wr = w' := by
          rw [hl0]
          exact parent_none A cap wr
        have tl : ((l.length : Int) == 0) = true := by rw [hl0]; rfl
        have tn : ((strOf []).toList.isEmpty) = true := by rw [strOf_nil]; rfl
        have HBM := HB0
        clear hl0 HB0
        go_wp2_with fail
        refine HP0.mono ?_
        clear HP0
        rintro e _ ⟨rfl, rfl⟩
        go_wp2_with fail
        refine (same_any t _ (by omega)).mono ?_
        rintro e v1 ⟨rfl, hb⟩
        have HB1 : Hid (Below w.heap.size w v1) := HBM.out.trans (hb.mono HBM.out.size)
        clear hb HBM
        go_wp2_with fail
        refine (join_any l A cap v1 (HR.out _ HB1.out) HJ.out).mono ?_
        rintro e v2 ⟨rfl, hb⟩
        have HB2 : Hid (Below w.heap.size w v2) := HB1.out.trans (hb.mono HB1.out.size)
        have HRL2 : Hid (RdS v2 A l) := HR.out _ HB2.out
        clear hb HB1
        have tj : ((strOf (Pa.join l)).toList == (strOf (Pa.join l)).toList) = true := by simp
        go_wp2_with (go_at_call 14; refine (refJoin_any l A cap _ HRL2.out HJ.out (by omega)).mono ?_; rintro e wx ⟨rfl, rfl⟩)
        refine (same_any (Pa.join l) _ HJJ.out).mono ?_
        rintro e v3 ⟨rfl, hb⟩
        have HB3 : Hid (Below w.heap.size w v3) := HB2.out.trans (hb.mono HB2.out.size)
        clear hb HB2 HRL2
        go_wp2_with fail
        refine (within_names v3 l o A B cap cap2 (HR.out _ HB3.out) (HS.out _ HB3.out) (by omega) (by omega)).mono ?_
        rintro e _ ⟨rfl, rfl⟩
        obtain ⟨z, hz⟩ : ∃ z, z = decide (o = l.take o.length) := ⟨_, rfl⟩
        rw [← hz]
        have HZ := Lib.hid hz
        clear hz
        go_wp2_with fail
        refine (refWithin_names v3 l o A B cap cap2 (HR.out _ HB3.out) (HS.out _ HB3.out) (by omega) (by omega)).mono ?_
        rintro e v4 ⟨rfl, hb⟩
        rw [← HZ.out]
        have HB4 : Hid (Below w.heap.size w v4) := HB3.out.trans (hb.mono HB3.out.size)
        clear hb HB3 HZ
        have tz : (z == z) = true := by simp
        have HT0 : Hid (TAt v4.heap.size (.slice (some ⟨v4.heap.size, 0, none⟩) 0 0) [] v4 (v4.alloc (.cells #[] 9))) := TAt.empty v4
        have HL0 : Hid (RdS (v4.alloc (.cells #[] 9)) A l) := (HR.out _ HB4.out).below (below_new v4 _)
        have HN1 : Hid (([] : List Bs).length + l.length ≤ 68719476736) := by show 0 + _ ≤ _; omega
        have HN2 : Hid (([] ++ l).length + o.length ≤ 68719476736) := by show _ ≤ _; rw [List.nil_append]; omega
        have HSB : Hid (∀ x, Below v4.heap.size v4 x → RdS x B o) := fun x hx => (HS.out _ HB4.out).below hx
        go_wp2_with (first | (at_builtin; refine wpList_append_txts rfl (.tmp 88) (.tmp 89) rfl rfl HT0.out (Below.refl _ _) A l l.length cap rfl rfl HL0.out HN1.out ?_; intro x2 w2 HO2 HG2) | (at_builtin; refine wpList_append_txts rfl (.tmp 90) (.tmp 91) rfl rfl HO2.out (Below.refl _ _) B o o.length cap2 rfl rfl (HSB.out _ HO2.out.later) HN2.out ?_; intro x3 w3 HO3 HG3))
        have HT3 : Hid (TAt v4.heap.size x3 (l ++ o) v4 w3) := HO3.out
        clear HO3 HG3 HO2 HG2 HT0 HL0 HSB
        obtain ⟨X3, c3, rfl, _, hr3⟩ := HT3.out.form
        have HB5 : Hid (Below w.heap.size w w3) := HB4.out.trans (HT3.out.later.mono HB4.out.size)
        have HR3 := Lib.hid hr3
        have HLO : Hid ((l ++ o).length ≤ 1000000) := by show _ ≤ _; rw [List.length_append]; omega
        clear hr3 HT3 HB4
        go_wp2_with fail
        refine (within_names _ (l ++ o) l X3 A c3 cap HR3.out (HR.out _ HB5.out) HLO.out (by omega)).mono ?_
        rintro e _ ⟨rfl, rfl⟩
        rw [show decide (l = (l ++ o).take l.length) = true from decide_eq_true (by simp)]
        go_wp2_with fail
        refine (known_any _).mono ?_
        rintro e w6 ⟨rfl, hb⟩
        have HB6 : Hid (Below w.heap.size w w6) := HB5.out.trans (hb.mono HB5.out.size)
        clear hb
        go_wp2_with fail
        go_ret
        exact ⟨rfl, HB6.out⟩
      · obtain ⟨q, x, hq⟩ := snoc_of hl0
        have hlq : l.length = q.length + 1 := by rw [hq, List.length_append]; rfl
        have hlx : l[q.length]? = some x := by rw [hq]; simp
        have hql : q.length ≤ 20 := by omega
        obtain ⟨b, off, rfl, _⟩ := (HR.out _ (Below.refl _ _)).at_ hlx
        have HC : Hid (∀ W, Below w.heap.size w W → W.cell? ⟨b, off + q.length, none⟩ = some (.string (strOf x))) := fun W hW => by
          obtain ⟨b', off', e, h⟩ := (HR.out W hW).at_ hlx
          cases e
          exact h
        have HQ : Hid (∀ W, Below w.heap.size w W → RdS W (some ⟨b, off, none⟩) q) := fun W hW => by
          have h := (HR.out W hW).take q.length
          rw [show l.take q.length = q by rw [hq]; simp] at h
          exact h
        have hsl : ∀ W, (Instr.sliceAt 22 (.slice (some ⟨b, off, none⟩) l.length cap) none (some (.int .i64 q.length)) none).run Try.prog W = .ok (.slice (some ⟨b, off, none⟩) q.length cap) W := fun W => sls_h W _ _ cap q.length (by omega)
        have tl : ((l.length : Int) == 0) = false := beq_eq_false_iff_ne.2 (by omega)
        have hq2 : (l.length : Int) - 1 = q.length := by omega
        have hlt : q.length < l.length := by omega
        have HP := parent_any l q x _ cap wr (HR.out _ HB0.out) hlc (by omega) hq
        have ts : ((strOf x).toList == (strOf x).toList) = true := by simp
        clear hq hlq hlx hl0
        go_wp2_with fail
        refine HP.mono ?_
        clear HP
        rintro e w1 ⟨U, cu, rfl, hcu, hru, hb⟩
        have HB1 : Hid (Below w.heap.size w w1) := HB0.out.trans (hb.mono HB0.out.size)
        have HRU := Lib.hid hru
        have hcell := HC.out _ HB1.out
        clear hb hru HB0 hcu
        go_wp2_with fail
        refine (sameS_any w1 q q U (some ⟨b, off, none⟩) _ _ HRU.out (HQ.out _ HB1.out) (by omega) (by omega)).mono ?_
        rintro e w2 ⟨rfl, hb⟩
        have HBM : Hid (Below w.heap.size w w2) := HB1.out.trans (hb.mono HB1.out.size)
        clear hb HB1 hcell HRU
        rw [show decide (q = q) = true from decide_eq_true rfl]
        go_wp2_with fail
        refine (same_any t _ (by omega)).mono ?_
        rintro e v1 ⟨rfl, hb⟩
        have HB1 : Hid (Below w.heap.size w v1) := HBM.out.trans (hb.mono HBM.out.size)
        clear hb HBM
        go_wp2_with fail
        refine (join_any l (some ⟨b, off, none⟩) cap v1 (HR.out _ HB1.out) HJ.out).mono ?_
        rintro e v2 ⟨rfl, hb⟩
        have HB2 : Hid (Below w.heap.size w v2) := HB1.out.trans (hb.mono HB1.out.size)
        have HRL2 : Hid (RdS v2 (some ⟨b, off, none⟩) l) := HR.out _ HB2.out
        clear hb HB1
        have tj : ((strOf (Pa.join l)).toList == (strOf (Pa.join l)).toList) = true := by simp
        go_wp2_with (go_at_call 14; refine (refJoin_any l (some ⟨b, off, none⟩) cap _ HRL2.out HJ.out (by omega)).mono ?_; rintro e wx ⟨rfl, rfl⟩)
        refine (same_any (Pa.join l) _ HJJ.out).mono ?_
        rintro e v3 ⟨rfl, hb⟩
        have HB3 : Hid (Below w.heap.size w v3) := HB2.out.trans (hb.mono HB2.out.size)
        clear hb HB2 HRL2
        go_wp2_with fail
        refine (within_names v3 l o (some ⟨b, off, none⟩) B cap cap2 (HR.out _ HB3.out) (HS.out _ HB3.out) (by omega) (by omega)).mono ?_
        rintro e _ ⟨rfl, rfl⟩
        obtain ⟨z, hz⟩ : ∃ z, z = decide (o = l.take o.length) := ⟨_, rfl⟩
        rw [← hz]
        have HZ := Lib.hid hz
        clear hz
        go_wp2_with fail
        refine (refWithin_names v3 l o (some ⟨b, off, none⟩) B cap cap2 (HR.out _ HB3.out) (HS.out _ HB3.out) (by omega) (by omega)).mono ?_
        rintro e v4 ⟨rfl, hb⟩
        rw [← HZ.out]
        have HB4 : Hid (Below w.heap.size w v4) := HB3.out.trans (hb.mono HB3.out.size)
        clear hb HB3 HZ
        have tz : (z == z) = true := by simp
        have HT0 : Hid (TAt v4.heap.size (.slice (some ⟨v4.heap.size, 0, none⟩) 0 0) [] v4 (v4.alloc (.cells #[] 9))) := TAt.empty v4
        have HL0 : Hid (RdS (v4.alloc (.cells #[] 9)) (some ⟨b, off, none⟩) l) := (HR.out _ HB4.out).below (below_new v4 _)
        have HN1 : Hid (([] : List Bs).length + l.length ≤ 68719476736) := by show 0 + _ ≤ _; omega
        have HN2 : Hid (([] ++ l).length + o.length ≤ 68719476736) := by show _ ≤ _; rw [List.nil_append]; omega
        have HSB : Hid (∀ x, Below v4.heap.size v4 x → RdS x B o) := fun x hx => (HS.out _ HB4.out).below hx
        go_wp2_with (first | (at_builtin; refine wpList_append_txts rfl (.tmp 88) (.tmp 89) rfl rfl HT0.out (Below.refl _ _) (some ⟨b, off, none⟩) l l.length cap rfl rfl HL0.out HN1.out ?_; intro x2 w2 HO2 HG2) | (at_builtin; refine wpList_append_txts rfl (.tmp 90) (.tmp 91) rfl rfl HO2.out (Below.refl _ _) B o o.length cap2 rfl rfl (HSB.out _ HO2.out.later) HN2.out ?_; intro x3 w3 HO3 HG3))
        have HT3 : Hid (TAt v4.heap.size x3 (l ++ o) v4 w3) := HO3.out
        clear HO3 HG3 HO2 HG2 HT0 HL0 HSB
        obtain ⟨X3, c3, rfl, _, hr3⟩ := HT3.out.form
        have HB5 : Hid (Below w.heap.size w w3) := HB4.out.trans (HT3.out.later.mono HB4.out.size)
        have HR3 := Lib.hid hr3
        have HLO : Hid ((l ++ o).length ≤ 1000000) := by show _ ≤ _; rw [List.length_append]; omega
        clear hr3 HT3 HB4
        go_wp2_with fail
        refine (within_names _ (l ++ o) l X3 (some ⟨b, off, none⟩) c3 cap HR3.out (HR.out _ HB5.out) HLO.out (by omega)).mono ?_
        rintro e _ ⟨rfl, rfl⟩
        rw [show decide (l = (l ++ o).take l.length) = true from decide_eq_true (by simp)]
        go_wp2_with fail
        refine (known_any _).mono ?_
        rintro e w6 ⟨rfl, hb⟩
        have HB6 : Hid (Below w.heap.size w w6) := HB5.out.trans (hb.mono HB5.out.size)
        clear hb
        go_wp2_with fail
        go_ret
        exact ⟨rfl, HB6.out⟩

theorem tells_top (s : ByteArray) (l0 : List Bs) (A : Option Addr) (cap : Nat) (o0 : List Bs) (B : Option Addr) (cap2 : Nat) (w : World) (hs : s.size ≤ maxLen) (hr : RdS w A l0) (hc : l0.length ≤ cap) (hj : (joined l0).length ≤ 1048576) (hr2 : RdS w B o0) (hc2 : o0.length ≤ cap2) (hj2 : (joined o0).length ≤ 1048576)
    (hl : l0.length ≤ 9223372036854775807) (ho : o0.length ≤ 9223372036854775807) :
    Calls Try.prog 4 #[.string s, .slice A l0.length cap, .slice B o0.length cap2] w fun e w' => e = .returned (.bool true) ∧ Below w.heap.size w w' := by
  obtain ⟨x, rfl, hx⟩ := strOf_of s
  exact tells_any x l0 A cap o0 B cap2 w (by unfold maxLen at hs; omega) hr hc hj hr2 hc2 hj2 hl ho
end Go.Proofs.Ytmdffakhejdkoaa
