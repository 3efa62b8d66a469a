/-
  OWN WORK. PathBack: the law's walk.
-/
import Derived.Test.YtmdffakhejdkoaaPaKnown
namespace Go.Proofs.Ytmdffakhejdkoaa
open Go.RowKit

theorem good_le {n : Bs} (h : Pa.good n = true) : n.length ≤ 16 := by
  simp only [Pa.good, Bool.and_eq_true, decide_eq_true_eq] at h
  exact h.1.1.2
theorem joined_good {l : List Bs} (h : ∀ n ∈ l, Pa.good n = true) : (joined l).length ≤ 17 * l.length := by
  induction l with
  | nil => simp [joined]
  | cons x l ih =>
    have h1 := ih fun n hn => h n (List.mem_cons_of_mem _ hn)
    have h2 := good_le (h x (by simp))
    unfold joined at h1 ⊢
    rw [List.flatMap_cons, List.length_append, List.length_cons, List.length_cons]
    omega
/-- The names that are good so far, at most eight of them. -/
def GIn (w : World) (v : Value) (wr : World) : Prop := ∃ g : List Bs, g.length ≤ 8 ∧ (∀ n ∈ g, Pa.good n = true) ∧ TAt w.heap.size v g w wr

set_option maxHeartbeats 8000000 in
set_option maxRecDepth 100000 in
theorem back_any (s : Bs) (l : List Bs) (A : Option Addr) (cap : Nat) (w : World) (hs : s.length ≤ 9223372036854775807) (hr : RdS w A l) (hl : l.length ≤ 9223372036854775807) (hll : ∀ x ∈ l, x.length ≤ 9223372036854775807) :
    Calls Try.prog 5 #[.string (strOf s), .slice A l.length cap] w fun e w' => e = .returned (.bool true) ∧ Below w.heap.size w w' := by
  obtain ⟨t, ht⟩ : ∃ t, t = s.take 300 := ⟨_, rfl⟩
  have htl : t.length ≤ 300 := by rw [ht, List.length_take]; omega
  have HH : ∀ wx, Calls Try.prog 12 #[.string (strOf s), .int .i64 300] wx fun e w' => e = .returned (.string (strOf t)) ∧ wx = w' := fun wx => by rw [ht]; exact head_any s 300 wx hs (by omega)
  have HR : Hid (RdS w A l) := hr
  have HLL := Lib.hid hll
  have HH := Lib.hid HH
  clear ht hr hll
  go_enter Try.func5, Try.ntmps5
  go_wp2_with (go_at_call 12; refine (HH.out _).mono ?_; rintro e wx ⟨rfl, rfl⟩)
  refine (split_any t w (by omega)).mono ?_
  rintro e w1 ⟨ns, A1, c1, k, rfl, hc, hr, h1, hb⟩
  have hns : ns.length ≤ 8 := by rw [(pair_eq h1).1]; exact split_short 8 t
  have hj : (joined ns).length ≤ 140737488355328 := by have := split_joined 8 t; rw [← (pair_eq h1).1] at this; omega
  have HJ := Lib.hid hj
  have HR1 := Lib.hid hr
  have HB1 := Lib.hid hb
  have H1 := Lib.hid h1
  clear hr hb hj h1 hc
  by_cases hk : k = 0
  · subst hk
    have HJS : Hid (Pa.join ns = t) := by
      have h := Pa.join_split (d := 8) (s := t) (by rw [← (pair_eq H1.out).2])
      rw [← (pair_eq H1.out).1] at h
      exact h
    go_wp2_with fail
    refine (join_any ns A1 c1 w1 HR1.out HJ.out).mono ?_
    rintro e wm ⟨rfl, hb⟩
    have HBM : Hid (Below w.heap.size w wm) := HB1.out.trans (hb.mono HB1.out.size)
    clear hb
    rw [HJS.out]
    have tj : ((strOf t).toList == (strOf t).toList) = true := by simp
    go_wp2_with fail
    go_loopw [7, 8] (fun t7 t8 wr => ∃ (v : Value) (j : Nat), t7 = v ∧ t8 = .int .i64 j ∧ j ≤ l.length ∧ Hid (GIn wm v wr)) (fun _ t8 _ => l.length - (match t8 with | .int _ k => k.toNat | _ => 0))
    case atStart => exact ⟨_, 0, rfl, rfl, Nat.zero_le _, [], Nat.zero_le _, (fun n hn => by cases hn), TAt.nil wm⟩
    case round =>
      obtain ⟨v, j, rfl, rfl, hjl, HI⟩ := hrel
      obtain ⟨g, hg8, hg, hT⟩ := HI.out
      have HG := Lib.hid hg
      have HT := Lib.hid hT
      clear hg hT HI
      obtain ⟨X, cp, rfl, hcp, _⟩ := HT.out.form
      by_cases hj : j < l.length
      · by_cases h8 : g.length < 8
        · obtain ⟨x, hx⟩ : ∃ x, l[j]? = some x := ⟨_, List.getElem?_eq_getElem hj⟩
          have hxl : x.length ≤ 9223372036854775807 := HLL.out x (List.mem_of_getElem? hx)
          obtain ⟨b, off, rfl, hcell⟩ := (HR.out.below (HBM.out.trans (HT.out.later.mono HBM.out.size))).at_ hx
          clear hx
          have HN : Hid (g.length + [x].length ≤ 68719476736) := by show g.length + 1 ≤ _; omega
          have stay : Hid (RdS (wr.alloc (.cells #[.string (strOf x)] 9)) (some ⟨wr.heap.size, 0, none⟩) [x]) := rds_one wr x _
          cases hok : Pa.good x with
          | true =>
            have HG2 : Hid (∀ n ∈ g ++ [x], Pa.good n = true) := fun n hn => by
              rcases List.mem_append.1 hn with h | h
              · exact HG.out n h
              · rw [List.mem_singleton.1 h]; exact hok
            go_wp2_with (first | (go_at_call 17; refine (good_any x _ hxl).mono ?_; rintro e wx ⟨rfl, rfl⟩) | (at_builtin; refine wpList_append_txts rfl (.tmp 51) (.tmp 56) rfl rfl HT.out (below_new wr _) (some ⟨wr.heap.size, 0, none⟩) [x] 1 1 rfl rfl stay.out HN.out ?_; intro v2 w2 HO2 HG3))
            obtain ⟨X2, c2, rfl, _, _⟩ := HO2.out.form
            clear HG3
            go_roundw
            case rel => exact ⟨_, j + 1, rfl, rfl, by omega, g ++ [x], by rw [List.length_append, List.length_singleton]; omega, HG2.out, HO2.out⟩
            case measure => simp; omega
          | false =>
            go_wp2_with (go_at_call 17; refine (good_any x _ hxl).mono ?_; rintro e wx ⟨rfl, rfl⟩)
            go_roundw
            case rel => exact ⟨_, j + 1, rfl, rfl, by omega, g, hg8, HG.out, HT.out⟩
            case measure => simp; omega
        · have HJG : Hid ((joined g).length ≤ 140737488355328) := by show _ ≤ _; have := joined_good HG.out; omega
          have HSJ : Hid (Pa.split 8 (Pa.join g) = (g, 0)) := Pa.split_join HG.out hg8
          have HRG : Hid (RdS wr X g) := by
            obtain ⟨X2, cap2, hv, _, h⟩ := HT.out.form
            cases hv
            exact h
          have HBW : Hid (Below w.heap.size w wr) := HBM.out.trans (HT.out.later.mono HBM.out.size)
          have HPL : Hid ((Pa.join g).length ≤ 9223372036854775807) := by
            show _ ≤ _
            by_cases h : g = []
            · rw [h]; decide
            · rw [join_of h]; have := joined_good HG.out; omega
          go_wp2_with fail
          refine (join_any g X cp wr HRG.out HJG.out).mono ?_
          rintro e w3 ⟨rfl, hb⟩
          have HB3 : Hid (Below w.heap.size w w3) := HBW.out.trans (hb.mono HBW.out.size)
          have HR3 : Hid (RdS w3 X g) := HRG.out.below hb
          clear hb HBW HRG
          go_wp2_with fail
          refine (split_any (Pa.join g) w3 HPL.out).mono ?_
          rintro e w4 ⟨ms, A4, c4, k4, rfl, hc, hr, h4, hb⟩
          obtain ⟨rfl, rfl⟩ := pair_eq (h4.trans HSJ.out)
          have HB4 : Hid (Below w.heap.size w w4) := HB3.out.trans (hb.mono HB3.out.size)
          have HR4 : Hid (RdS w4 X ms) := HR3.out.below (hb.mono (Nat.le_refl _))
          have HS4 := Lib.hid hr
          clear hb hr h4 hc HB3 HR3
          go_wp2_with fail
          refine (sameS_any _ ms ms A4 X _ _ HS4.out HR4.out (by omega) (by omega)).mono ?_
          rintro e w5 ⟨rfl, hb⟩
          have HB5 : Hid (Below w.heap.size w w5) := HB4.out.trans (hb.mono HB4.out.size)
          clear hb
          rw [show (decide (ms = ms)) = true from decide_eq_true rfl]
          go_wp2_with fail
          refine (known_any w5).mono ?_
          rintro e w6 ⟨rfl, hb⟩
          have HB6 : Hid (Below w.heap.size w w6) := HB5.out.trans (hb.mono HB5.out.size)
          clear hb
          go_wp2_with fail
          go_ret
          exact ⟨rfl, HB6.out⟩
      · have HJG : Hid ((joined g).length ≤ 140737488355328) := by show _ ≤ _; have := joined_good HG.out; omega
        have HSJ : Hid (Pa.split 8 (Pa.join g) = (g, 0)) := Pa.split_join HG.out hg8
        have HRG : Hid (RdS wr X g) := by
          obtain ⟨X2, cap2, hv, _, h⟩ := HT.out.form
          cases hv
          exact h
        have HBW : Hid (Below w.heap.size w wr) := HBM.out.trans (HT.out.later.mono HBM.out.size)
        have HPL : Hid ((Pa.join g).length ≤ 9223372036854775807) := by
          show _ ≤ _
          by_cases h : g = []
          · rw [h]; decide
          · rw [join_of h]; have := joined_good HG.out; omega
        go_wp2_with fail
        refine (join_any g X cp wr HRG.out HJG.out).mono ?_
        rintro e w3 ⟨rfl, hb⟩
        have HB3 : Hid (Below w.heap.size w w3) := HBW.out.trans (hb.mono HBW.out.size)
        have HR3 : Hid (RdS w3 X g) := HRG.out.below hb
        clear hb HBW HRG
        go_wp2_with fail
        refine (split_any (Pa.join g) w3 HPL.out).mono ?_
        rintro e w4 ⟨ms, A4, c4, k4, rfl, hc, hr, h4, hb⟩
        obtain ⟨rfl, rfl⟩ := pair_eq (h4.trans HSJ.out)
        have HB4 : Hid (Below w.heap.size w w4) := HB3.out.trans (hb.mono HB3.out.size)
        have HR4 : Hid (RdS w4 X ms) := HR3.out.below (hb.mono (Nat.le_refl _))
        have HS4 := Lib.hid hr
        clear hb hr h4 hc HB3 HR3
        go_wp2_with fail
        refine (sameS_any _ ms ms A4 X _ _ HS4.out HR4.out (by omega) (by omega)).mono ?_
        rintro e w5 ⟨rfl, hb⟩
        have HB5 : Hid (Below w.heap.size w w5) := HB4.out.trans (hb.mono HB4.out.size)
        clear hb
        rw [show (decide (ms = ms)) = true from decide_eq_true rfl]
        go_wp2_with fail
        refine (known_any w5).mono ?_
        rintro e w6 ⟨rfl, hb⟩
        have HB6 : Hid (Below w.heap.size w w6) := HB5.out.trans (hb.mono HB5.out.size)
        clear hb
        go_wp2_with fail
        go_ret
        exact ⟨rfl, HB6.out⟩

  · have hns0 : ns = [] := by rw [(pair_eq H1.out).1]; exact Pa.split_none (by rw [← (pair_eq H1.out).2]; exact hk)
    subst hns0
    have tk : ((k : Int) == 0) = false := beq_eq_false_iff_ne.2 (by omega)
    obtain ⟨wm, hwm⟩ : ∃ wm, wm = w1 := ⟨_, rfl⟩
    rw [← hwm]
    have HBM : Hid (Below w.heap.size w wm) := by show Below _ _ _; rw [hwm]; exact HB1.out
    clear hwm
    go_wp2_with fail
    go_loopw [7, 8] (fun t7 t8 wr => ∃ (v : Value) (j : Nat), t7 = v ∧ t8 = .int .i64 j ∧ j ≤ l.length ∧ Hid (GIn wm v wr)) (fun _ t8 _ => l.length - (match t8 with | .int _ k => k.toNat | _ => 0))
    case atStart => exact ⟨_, 0, rfl, rfl, Nat.zero_le _, [], Nat.zero_le _, (fun n hn => by cases hn), TAt.nil wm⟩
    case round =>
      obtain ⟨v, j, rfl, rfl, hjl, HI⟩ := hrel
      obtain ⟨g, hg8, hg, hT⟩ := HI.out
      have HG := Lib.hid hg
      have HT := Lib.hid hT
      clear hg hT HI
      obtain ⟨X, cp, rfl, hcp, _⟩ := HT.out.form
      by_cases hj : j < l.length
      · by_cases h8 : g.length < 8
        · obtain ⟨x, hx⟩ : ∃ x, l[j]? = some x := ⟨_, List.getElem?_eq_getElem hj⟩
          have hxl : x.length ≤ 9223372036854775807 := HLL.out x (List.mem_of_getElem? hx)
          obtain ⟨b, off, rfl, hcell⟩ := (HR.out.below (HBM.out.trans (HT.out.later.mono HBM.out.size))).at_ hx
          clear hx
          have HN : Hid (g.length + [x].length ≤ 68719476736) := by show g.length + 1 ≤ _; omega
          have stay : Hid (RdS (wr.alloc (.cells #[.string (strOf x)] 9)) (some ⟨wr.heap.size, 0, none⟩) [x]) := rds_one wr x _
          cases hok : Pa.good x with
          | true =>
            have HG2 : Hid (∀ n ∈ g ++ [x], Pa.good n = true) := fun n hn => by
              rcases List.mem_append.1 hn with h | h
              · exact HG.out n h
              · rw [List.mem_singleton.1 h]; exact hok
            go_wp2_with (first | (go_at_call 17; refine (good_any x _ hxl).mono ?_; rintro e wx ⟨rfl, rfl⟩) | (at_builtin; refine wpList_append_txts rfl (.tmp 51) (.tmp 56) rfl rfl HT.out (below_new wr _) (some ⟨wr.heap.size, 0, none⟩) [x] 1 1 rfl rfl stay.out HN.out ?_; intro v2 w2 HO2 HG3))
            obtain ⟨X2, c2, rfl, _, _⟩ := HO2.out.form
            clear HG3
            go_roundw
            case rel => exact ⟨_, j + 1, rfl, rfl, by omega, g ++ [x], by rw [List.length_append, List.length_singleton]; omega, HG2.out, HO2.out⟩
            case measure => simp; omega
          | false =>
            go_wp2_with (go_at_call 17; refine (good_any x _ hxl).mono ?_; rintro e wx ⟨rfl, rfl⟩)
            go_roundw
            case rel => exact ⟨_, j + 1, rfl, rfl, by omega, g, hg8, HG.out, HT.out⟩
            case measure => simp; omega
        · have HJG : Hid ((joined g).length ≤ 140737488355328) := by show _ ≤ _; have := joined_good HG.out; omega
          have HSJ : Hid (Pa.split 8 (Pa.join g) = (g, 0)) := Pa.split_join HG.out hg8
          have HRG : Hid (RdS wr X g) := by
            obtain ⟨X2, cap2, hv, _, h⟩ := HT.out.form
            cases hv
            exact h
          have HBW : Hid (Below w.heap.size w wr) := HBM.out.trans (HT.out.later.mono HBM.out.size)
          have HPL : Hid ((Pa.join g).length ≤ 9223372036854775807) := by
            show _ ≤ _
            by_cases h : g = []
            · rw [h]; decide
            · rw [join_of h]; have := joined_good HG.out; omega
          go_wp2_with fail
          refine (join_any g X cp wr HRG.out HJG.out).mono ?_
          rintro e w3 ⟨rfl, hb⟩
          have HB3 : Hid (Below w.heap.size w w3) := HBW.out.trans (hb.mono HBW.out.size)
          have HR3 : Hid (RdS w3 X g) := HRG.out.below hb
          clear hb HBW HRG
          go_wp2_with fail
          refine (split_any (Pa.join g) w3 HPL.out).mono ?_
          rintro e w4 ⟨ms, A4, c4, k4, rfl, hc, hr, h4, hb⟩
          obtain ⟨rfl, rfl⟩ := pair_eq (h4.trans HSJ.out)
          have HB4 : Hid (Below w.heap.size w w4) := HB3.out.trans (hb.mono HB3.out.size)
          have HR4 : Hid (RdS w4 X ms) := HR3.out.below (hb.mono (Nat.le_refl _))
          have HS4 := Lib.hid hr
          clear hb hr h4 hc HB3 HR3
          go_wp2_with fail
          refine (sameS_any _ ms ms A4 X _ _ HS4.out HR4.out (by omega) (by omega)).mono ?_
          rintro e w5 ⟨rfl, hb⟩
          have HB5 : Hid (Below w.heap.size w w5) := HB4.out.trans (hb.mono HB4.out.size)
          clear hb
          rw [show (decide (ms = ms)) = true from decide_eq_true rfl]
          go_wp2_with fail
          refine (known_any w5).mono ?_
          rintro e w6 ⟨rfl, hb⟩
          have HB6 : Hid (Below w.heap.size w w6) := HB5.out.trans (hb.mono HB5.out.size)
          clear hb
          go_wp2_with fail
          go_ret
          exact ⟨rfl, HB6.out⟩
      · have HJG : Hid ((joined g).length ≤ 140737488355328) := by show _ ≤ _; have := joined_good HG.out; omega
        have HSJ : Hid (Pa.split 8 (Pa.join g) = (g, 0)) := Pa.split_join HG.out hg8
        have HRG : Hid (RdS wr X g) := by
          obtain ⟨X2, cap2, hv, _, h⟩ := HT.out.form
          cases hv
          exact h
        have HBW : Hid (Below w.heap.size w wr) := HBM.out.trans (HT.out.later.mono HBM.out.size)
        have HPL : Hid ((Pa.join g).length ≤ 9223372036854775807) := by
          show _ ≤ _
          by_cases h : g = []
          · rw [h]; decide
          · rw [join_of h]; have := joined_good HG.out; omega
        go_wp2_with fail
        refine (join_any g X cp wr HRG.out HJG.out).mono ?_
        rintro e w3 ⟨rfl, hb⟩
        have HB3 : Hid (Below w.heap.size w w3) := HBW.out.trans (hb.mono HBW.out.size)
        have HR3 : Hid (RdS w3 X g) := HRG.out.below hb
        clear hb HBW HRG
        go_wp2_with fail
        refine (split_any (Pa.join g) w3 HPL.out).mono ?_
        rintro e w4 ⟨ms, A4, c4, k4, rfl, hc, hr, h4, hb⟩
        obtain ⟨rfl, rfl⟩ := pair_eq (h4.trans HSJ.out)
        have HB4 : Hid (Below w.heap.size w w4) := HB3.out.trans (hb.mono HB3.out.size)
        have HR4 : Hid (RdS w4 X ms) := HR3.out.below (hb.mono (Nat.le_refl _))
        have HS4 := Lib.hid hr
        clear hb hr h4 hc HB3 HR3
        go_wp2_with fail
        refine (sameS_any _ ms ms A4 X _ _ HS4.out HR4.out (by omega) (by omega)).mono ?_
        rintro e w5 ⟨rfl, hb⟩
        have HB5 : Hid (Below w.heap.size w w5) := HB4.out.trans (hb.mono HB4.out.size)
        clear hb
        rw [show (decide (ms = ms)) = true from decide_eq_true rfl]
        go_wp2_with fail
        refine (known_any w5).mono ?_
        rintro e w6 ⟨rfl, hb⟩
        have HB6 : Hid (Below w.heap.size w w6) := HB5.out.trans (hb.mono HB5.out.size)
        clear hb
        go_wp2_with fail
        go_ret
        exact ⟨rfl, HB6.out⟩

theorem back_top (s : ByteArray) (l : List Bs) (A : Option Addr) (cap : Nat) (w : World) (hs : s.size ≤ maxLen) (hr : RdS w A l) (hl : l.length ≤ 9223372036854775807) (hll : ∀ x ∈ l, x.length ≤ 9223372036854775807) :
    Calls Try.prog 5 #[.string s, .slice A l.length cap] w fun e w' => e = .returned (.bool true) ∧ Below w.heap.size w w' := by
  obtain ⟨x, rfl, hx⟩ := strOf_of s
  exact back_any x l A cap w (by unfold maxLen at hs; omega) hr hl hll
end Go.Proofs.Ytmdffakhejdkoaa
