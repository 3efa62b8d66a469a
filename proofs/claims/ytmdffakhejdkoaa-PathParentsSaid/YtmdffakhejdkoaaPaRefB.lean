/-
  OWN WORK. Names: the document's Split, Join, Within.
-/
import Derived.Test.YtmdffakhejdkoaaPaRef
import Derived.Test.YtmdffakhejdkoaaPaCodeD
namespace Go.Proofs.Ytmdffakhejdkoaa
open Go.RowKit

/-- Where the document's Split stands. -/
structure RIn (s : Bs) (cs : List Bs) (f i : Nat) : Prop where
  le1 : 1 ≤ f
  le2 : f ≤ i
  le3 : i ≤ s.length + 1
  few : cs.length ≤ i
  done : i = s.length + 1 → Pa.Parts s [] cs
  more : i ≤ s.length → Pa.Parts s (s.drop (f - 1)) cs ∧ Plain (s.drop (f - 1)) (i - f + 1)
theorem RIn.step {s : Bs} {cs : List Bs} {f i : Nat} {c : UInt8} (h : RIn s cs f i) (hc : s[i]? = some c) (hne : c ≠ 47) : RIn s cs f (i + 1) := by
  have hi := (List.getElem?_eq_some_iff.1 hc).1
  have hf := h.le2
  have h1 := h.le1
  obtain ⟨m1, m2⟩ := h.more (by omega)
  refine ⟨h1, by omega, by omega, by have := h.few; omega, fun e => by omega, fun _ => ⟨m1, ?_⟩⟩
  have e : (s.drop (f - 1))[i - f + 1]? = some c := by rw [List.getElem?_drop, show f - 1 + (i - f + 1) = i by omega]; exact hc
  have h3 := m2.step e hne
  rw [show i - f + 1 + 1 = i + 1 - f + 1 by omega] at h3
  exact h3
theorem RIn.piece {s : Bs} {cs : List Bs} {f i : Nat} (h : RIn s cs f i) (hi : i ≤ s.length) (he : i = s.length ∨ s[i]? = some 47) :
    (Pa.good ((s.drop f).take (i - f)) = true → RIn s (cs ++ [(s.drop f).take (i - f)]) (i + 1) (i + 1)) ∧ (Pa.good ((s.drop f).take (i - f)) = false → Pa.split 8 s = ([], 12)) := by
  have hf := h.le2
  have h1 := h.le1
  obtain ⟨m1, m2⟩ := h.more hi
  obtain ⟨u, hu⟩ := m1.form (by intro e; have := congrArg List.length e; rw [List.length_drop] at this; simp at this; omega)
  have hul : u.length + 1 = s.length - (f - 1) := by have := congrArg List.length hu; rw [List.length_drop, List.length_cons] at this; omega
  have hu2 : s.drop f = u := by
    have e : s.drop f = (s.drop (f - 1)).drop 1 := by rw [List.drop_drop]; congr 1; omega
    rw [e, hu]; rfl
  rw [hu] at m1 m2
  obtain ⟨p, r, e1, hp, hr, e2⟩ := Pa.part_at (u := u) m2.1 m2.2.1 m2.2.2 (by
    rcases he with he | he
    · left; omega
    · right
      rw [← hu, List.getElem?_drop, show f - 1 + (i - f + 1) = i by omega]; exact he)
  have ep : (s.drop f).take (i - f) = p := by rw [hu2, e1, show i - f = p.length by omega]; simp
  have er : s.drop i = r := by
    have e : s.drop i = (s.drop f).drop (i - f) := by rw [List.drop_drop]; congr 1; omega
    rw [e, hu2, e1, show i - f = p.length by omega]; simp
  rw [ep]
  rw [e1] at m1
  refine ⟨fun hg => ?_, fun hg => m1.bad hp hr hg⟩
  have m3 := m1.step hp hr hg
  refine ⟨by omega, Nat.le_refl _, by omega, by rw [List.length_append, List.length_singleton]; have := h.few; omega, fun e => ?_, fun hlt => ?_⟩
  · have hr0 : r = [] := by rw [← er]; exact List.drop_of_length_le (by omega)
    rw [hr0] at m3
    exact m3
  · rw [show i + 1 - 1 = i by omega, er]
    refine ⟨m3, by omega, ?_, fun j c h1 h2 => by omega⟩
    rw [← er, List.length_drop]; omega

set_option maxHeartbeats 4000000 in
set_option maxRecDepth 100000 in
theorem refSplit_any (s : Bs) (w : World) (hl : s.length ≤ 1000000000) : Calls Try.prog 18 #[.string (strOf s)] w (SAns s w) := by
  have e0 := strOf_size s
  have e1 := strOf_lit s [47]
  by_cases h1 : s = [47]
  · subst h1
    go_enter Try.func18, Try.ntmps18
    go_wp2
    go_ret2
    exact SAns.no (k := 0) rfl rfl
  replace e1 : ((strOf s).toList == [47]) = false := by rw [e1, decide_eq_false h1]
  by_cases h0 : s = []
  · subst h0
    go_enter Try.func18, Try.ntmps18
    go_wp2
    go_ret2
    exact SAns.no (k := 12) rfl rfl
  obtain ⟨c0, u, hs⟩ : ∃ c u, s = c :: u := by
    cases s with
    | nil => exact absurd rfl h0
    | cons c u => exact ⟨c, u, rfl⟩
  have hix := fun wx => str_at0 (l := s) (c := c0) (by rw [hs]; rfl) wx
  have HS := Lib.hid hs
  have hp : 0 < s.length := List.length_pos_iff.2 h0
  clear hs
  have hlen0 : ((s.length : Int) == 0) = false := beq_eq_false_iff_ne.2 (by omega)
  by_cases h47 : c0.toNat = 47
  · obtain rfl : c0 = 47 := UInt8.toNat_inj.1 h47
    have hix2 : ∀ wx, (Instr.index 9 (.string (strOf s)) (.int .i64 0)).run Try.prog wx = .ok (.int .u8 47) wx := hix
    have hu : u ≠ [] := fun e => h1 (by rw [HS.out, e])
    have H0 : Hid (∃ cs, RIn s cs 1 1 ∧ TAt w.heap.size (.slice none 0 0) cs w w) := ⟨[], ⟨Nat.le_refl _, Nat.le_refl _, by omega, Nat.zero_le _, (fun e => by omega), fun _ => ⟨by rw [show 1 - 1 = 0 from rfl, List.drop_zero, HS.out]; exact Pa.Parts.begin hu, ⟨Nat.le_refl _, by rw [show 1 - 1 = 0 from rfl, List.drop_zero]; omega, fun j c h1 h2 => by omega⟩⟩⟩, TAt.nil w⟩
    clear hix h47 hu h1 h0
    go_enter Try.func18, Try.ntmps18
    go_wp2
    go_loopw [4, 5, 6] (fun t4 t5 t6 wr => ∃ (v : Value) (f i : Nat), t4 = v ∧ t5 = .int .i64 f ∧ t6 = .int .i64 i ∧ Hid (∃ cs, RIn s cs f i ∧ TAt w.heap.size v cs w wr)) (fun _ _ t6 _ => s.length + 1 - (match t6 with | .int _ k => k.toNat | _ => 0))
    case atStart => exact ⟨_, 1, 1, rfl, rfl, rfl, H0⟩
    case round =>
      obtain ⟨v, f, i, rfl, rfl, rfl, HI⟩ := hrel
      obtain ⟨cs, hR, hT⟩ := HI.out
      have HR := Lib.hid hR
      have HB := Lib.hid hT.later
      have HT := Lib.hid hT
      clear hR hT HI H0
      obtain ⟨X, cap, rfl, hcap, _⟩ := HT.out.form
      have hfi := HR.out.le2
      have hi1 := HR.out.le3
      have hci := HR.out.few
      by_cases hi : i ≤ s.length
      · have cut : (i = s.length ∨ s[i]? = some 47) → Hid ((Pa.good ((s.drop f).take (i - f)) = true → RIn s (cs ++ [(s.drop f).take (i - f)]) (i + 1) (i + 1)) ∧ (Pa.good ((s.drop f).take (i - f)) = false → Pa.split 8 s = ([], 12))) := fun he => HR.out.piece hi he
        have hsl := fun wx => str_lh s f i hfi hi wx
        obtain ⟨p, hp⟩ : ∃ p, p = (s.drop f).take (i - f) := ⟨_, rfl⟩
        rw [← hp] at cut hsl
        have hpl : p.length ≤ 1000000000 := by rw [hp, List.length_take, List.length_drop]; omega
        clear hp
        have stay : Hid (RdS (wr.alloc (.cells #[.string (strOf p)] 9)) (some ⟨wr.heap.size, 0, none⟩) [p]) := rds_one wr p _
        have HN : Hid (cs.length + [p].length ≤ 68719476736) := by show cs.length + 1 ≤ _; omega
        by_cases hil : i = s.length
        · have HC := cut (.inl hil)
          have hd1 : ((i : Int) == s.length) = true := by rw [hil]; simp
          clear cut hil
          cases hg : Pa.good p with
          | false =>
            have HF : Hid (Pa.split 8 s = ([], 12)) := HC.out.2 hg
            go_wp2_with (go_at_call 19; refine (refGood_any p _ (by omega)).mono ?_; rintro e wx ⟨rfl, rfl⟩)
            go_ret2
            exact SAns.no2 (k := 12) HF.out HB.out rfl
          | true =>
            have HR2 : Hid (RIn s (cs ++ [p]) (i + 1) (i + 1)) := HC.out.1 hg
            go_wp2_with (first | (go_at_call 19; refine (refGood_any p _ (by omega)).mono ?_; rintro e wx ⟨rfl, rfl⟩) | (at_builtin; refine wpList_append_txts rfl (.tmp 39) (.tmp 44) rfl rfl HT.out (below_new wr _) (some ⟨wr.heap.size, 0, none⟩) [p] 1 1 rfl rfl stay.out HN.out ?_; intro v2 w2 HO2 HG2))
            obtain ⟨X2, c2, rfl, _, _⟩ := HO2.out.form
            clear HG2
            go_roundw
            case rel => exact ⟨_, i + 1, i + 1, rfl, rfl, rfl, cs ++ [p], HR2.out, HO2.out⟩
            case measure => simp; omega
        · obtain ⟨c, hc⟩ : ∃ c, s[i]? = some c := ⟨_, List.getElem?_eq_getElem (by omega)⟩
          have hixi := fun wx => str_at hc wx
          have hd1 : ((i : Int) == s.length) = false := beq_eq_false_iff_ne.2 (by omega)
          by_cases hc47 : c.toNat = 47
          · obtain rfl : c = 47 := UInt8.toNat_inj.1 hc47
            have HC := cut (.inr hc)
            have hixj : ∀ wx, (Instr.index 9 (.string (strOf s)) (.int .i64 (i : Nat))).run Try.prog wx = .ok (.int .u8 47) wx := hixi
            clear cut hixi hc hc47
            cases hg : Pa.good p with
            | false =>
              have HF : Hid (Pa.split 8 s = ([], 12)) := HC.out.2 hg
              go_wp2_with (go_at_call 19; refine (refGood_any p _ (by omega)).mono ?_; rintro e wx ⟨rfl, rfl⟩)
              go_ret2
              exact SAns.no2 (k := 12) HF.out HB.out rfl
            | true =>
              have HR2 : Hid (RIn s (cs ++ [p]) (i + 1) (i + 1)) := HC.out.1 hg
              go_wp2_with (first | (go_at_call 19; refine (refGood_any p _ (by omega)).mono ?_; rintro e wx ⟨rfl, rfl⟩) | (at_builtin; refine wpList_append_txts rfl (.tmp 39) (.tmp 44) rfl rfl HT.out (below_new wr _) (some ⟨wr.heap.size, 0, none⟩) [p] 1 1 rfl rfl stay.out HN.out ?_; intro v2 w2 HO2 HG2))
              obtain ⟨X2, c2, rfl, _, _⟩ := HO2.out.form
              clear HG2
              go_roundw
              case rel => exact ⟨_, i + 1, i + 1, rfl, rfl, rfl, cs ++ [p], HR2.out, HO2.out⟩
              case measure => simp; omega
          · have hne : c ≠ 47 := byte_ne (k := 47) hc47 (by decide)
            have HR2 : Hid (RIn s cs f (i + 1)) := HR.out.step hc hne
            have hc1 : ((c.toNat : Int) == 47) = false := beq_eq_false_iff_ne.2 (by omega)
            have HT2 := HT
            clear cut hc hne
            go_wp2
            go_roundw
            case rel => exact ⟨_, f, i + 1, rfl, rfl, rfl, cs, HR2.out, HT2.out⟩
            case measure => simp; omega
      · have HP : Hid (Pa.Parts s [] cs) := HR.out.done (by omega)
        by_cases h8 : 8 < cs.length
        · have HF : Hid (Pa.split 8 s = ([], 3)) := by show _ = _; rw [HP.out.done, if_neg (by omega)]
          go_wp2
          go_ret2
          exact SAns.no2 (k := 3) HF.out HB.out rfl
        · have HF : Hid (Pa.split 8 s = (cs, 0)) := by show _ = _; rw [HP.out.done, if_pos (by omega)]
          go_wp2
          go_ret2
          obtain ⟨X2, cap2, hv, hc, hr⟩ := HT.out.form
          cases hv
          exact ⟨cs, X, cap, 0, rfl, hc, hr, HF.out.symm, HB.out⟩
  · have HF : Hid (Pa.split 8 s = ([], 12)) := by
      show _ = _
      rw [HS.out]
      have hne : c0 ≠ 47 := byte_ne (k := 47) h47 (by decide)
      unfold Pa.split
      rw [if_neg (by simp [hne])]
      simp [hne]
    have e47 : ((c0.toNat : Int) == 47) = false := beq_eq_false_iff_ne.2 (by omega)
    go_enter Try.func18, Try.ntmps18
    go_wp2
    go_ret2
    exact SAns.no (k := 12) HF.out rfl

set_option maxHeartbeats 4000000 in
set_option maxRecDepth 100000 in
theorem refJoin_any (l : List Bs) (A : Option Addr) (cap : Nat) (w : World) (hr : RdS w A l) (hl : (joined l).length ≤ 140737488355328) (hll : l.length ≤ 140737488355328) : Calls Try.prog 14 #[.slice A l.length cap] w fun e w' => e = .returned (.string (strOf (Pa.join l))) ∧ w = w' := by
  by_cases h0 : l = []
  · subst h0
    go_enter Try.func14, Try.ntmps14
    go_wp2
    go_ret
    exact ⟨rfl, rfl⟩
  have hp : 0 < l.length := List.length_pos_iff.2 h0
  have hlen0 : ((l.length : Int) == 0) = false := beq_eq_false_iff_ne.2 (by omega)
  have HE : Hid (Pa.join l = joined l) := join_of h0
  have HR := Lib.hid hr
  have HL := Lib.hid hl
  clear hr hl h0
  go_enter Try.func14, Try.ntmps14
  go_wp2
  go_loopw [3, 4] (fun t2 t3 wr => ∃ (k : Nat) (x : Bs), t2 = .string (strOf x) ∧ t3 = .int .i64 k ∧ k ≤ l.length ∧ Hid (x = joined (l.take k)) ∧ wr = w) (fun _ t3 _ => l.length - (match t3 with | .int _ k => k.toNat | _ => 0))
  case atStart => exact ⟨0, [], rfl, rfl, Nat.zero_le _, rfl, rfl⟩
  case round =>
    obtain ⟨k, x, rfl, rfl, hkl, HX, rfl⟩ := hrel
    by_cases hk : k < l.length
    · obtain ⟨y, hy⟩ : ∃ y, l[k]? = some y := ⟨_, List.getElem?_eq_getElem hk⟩
      obtain ⟨b, off, rfl, hcell⟩ := HR.out.at_ hy
      have HT : Hid (l.take (k + 1) = l.take k ++ [y]) := take_snoc hy
      have hn : x.length + 1 + y.length ≤ 140737488355328 := by
        have h1 := joined_take_le l (k + 1)
        have h2 := HL.out
        rw [HT.out, joined_snoc, List.length_append, List.length_cons, ← HX.out] at h1
        omega
      have a1 := str_add x [47] (by show x.length + 1 ≤ _; omega)
      have a2 := str_add (x ++ [47]) y (by rw [List.length_append]; show x.length + 1 + y.length ≤ _; omega)
      obtain ⟨z2, hz2⟩ : ∃ z2, z2 = x ++ [47] ++ y := ⟨_, rfl⟩
      obtain ⟨z1, hz1⟩ : ∃ z1, z1 = x ++ [47] := ⟨_, rfl⟩
      rw [← hz2, ← hz1] at a2
      rw [← hz1] at a1
      have HX2 : Hid (z2 = joined (l.take (k + 1))) := by show _ = _; rw [hz2, HT.out, joined_snoc, HX.out]; simp
      have a0 : strOf [47] = { data := #[47] } := rfl
      rw [a0] at a1
      clear hy a0 hz1 hz2
      go_wp2
      go_roundw
      case rel => exact ⟨k + 1, z2, rfl, rfl, by omega, HX2.out, by first | rfl | trivial⟩
      case measure => simp; omega
    · obtain rfl : k = l.length := by omega
      have HX2 : Hid (Pa.join l = x) := by show _ = _; rw [HE.out, HX.out, List.take_length]
      go_wp2
      go_ret
      exact ⟨by rw [HX2.out]; rfl, rfl⟩

theorem below_drewN (w : World) (n b : Nat) : Below b w (w.drewN n) := ⟨rfl, rfl, rfl, Nat.le_refl _, fun _ _ => rfl⟩
theorem below_more {w wr : World} (h : Below w.heap.size w wr) (n : Nat) : Below w.heap.size w (wr.drewN n) := h.trans (below_drewN _ _ _)

set_option maxHeartbeats 1000000 in
set_option maxRecDepth 100000 in
theorem refWithin_names (w : World) (l o : List Bs) (A B : Option Addr) (c d : Nat) (hr : RdS w A l) (hs : RdS w B o) (_hl : l.length ≤ 1000000) (ho : o.length ≤ 1000000) :
    Calls Try.prog 15 #[.slice A l.length c, .slice B o.length d] w fun e w' => e = .returned (.bool (decide (o = l.take o.length))) ∧ Below w.heap.size w w' := by
  by_cases hgt : l.length < o.length
  · have HF : Hid (decide (o = l.take o.length) = false) := decide_eq_false fun e => by have := congrArg List.length e; rw [List.length_take] at this; omega
    go_enter Try.func15, Try.ntmps15
    go_wp2
    go_ret
    exact ⟨by rw [HF.out]; rfl, Below.refl _ _⟩
  have HR := Lib.hid hr
  have HS := Lib.hid hs
  clear hr hs
  go_enter Try.func15, Try.ntmps15
  go_wp2
  go_loopw [5] (fun t5 wr => ∃ k : Nat, t5 = .int .i64 k ∧ k ≤ o.length ∧ Hid (o.take k = l.take k) ∧ Hid (Below w.heap.size w wr)) (fun t5 _ => o.length - (match t5 with | .int _ k => k.toNat | _ => 0))
  case atStart => exact ⟨0, rfl, Nat.zero_le _, rfl, Below.refl _ _⟩
  case round =>
    obtain ⟨k, rfl, hko, HK, HB⟩ := hrel
    by_cases hk : k < o.length
    · obtain ⟨x, hx⟩ : ∃ x, o[k]? = some x := ⟨_, List.getElem?_eq_getElem hk⟩
      obtain ⟨y, hy⟩ : ∃ y, l[k]? = some y := ⟨_, List.getElem?_eq_getElem (by omega)⟩
      obtain ⟨b1, off1, rfl, hc1⟩ := (HS.out.below HB.out).at_ hx
      obtain ⟨b2, off2, rfl, hc2⟩ := (HR.out.below HB.out).at_ hy
      have HX : Hid (o.take (k + 1) = o.take k ++ [x] ∧ l.take (k + 1) = l.take k ++ [y]) := ⟨take_snoc hx, take_snoc hy⟩
      have HXY : Hid (o[k]? = some x ∧ l[k]? = some y) := ⟨hx, hy⟩
      clear hx hy
      by_cases he : y = x
      · have e1 : ((strOf y).toList == (strOf x).toList) = true := by rw [strOf_beq]; exact decide_eq_true he
        go_wp2_with fail
        go_quiet (fail)
        go_wp2_with fail
        go_roundw
        case rel => exact ⟨k + 1, by go_num, by omega, by show _ = _; rw [HX.out.1, HX.out.2, HK.out, he], below_more HB.out _⟩
        case measure => simp; omega
      · have e1 : ((strOf y).toList == (strOf x).toList) = false := by rw [strOf_beq]; exact decide_eq_false he
        have HF : Hid (decide (o = l.take o.length) = false) := decide_eq_false fun e => he (by
          have h1 := HXY.out.1
          rw [e, List.getElem?_take_of_lt hk, HXY.out.2] at h1
          exact Option.some.inj h1)
        go_wp2_with fail
        go_quiet (fail)
        go_wp2_with fail
        go_ret
        exact ⟨by rw [HF.out]; rfl, below_more HB.out _⟩
    · obtain rfl : k = o.length := by omega
      have HF : Hid (decide (o = l.take o.length) = true) := decide_eq_true (by have := HK.out; rw [List.take_length] at this; exact this)
      go_wp2
      go_ret
      exact ⟨by rw [HF.out]; rfl, HB.out⟩

set_option maxHeartbeats 1000000 in
set_option maxRecDepth 100000 in
theorem sameS_any (w : World) (l o : List Bs) (A B : Option Addr) (c d : Nat) (hr : RdS w A l) (hs : RdS w B o) (hl : l.length ≤ 1000000000) (_ho : o.length ≤ 1000000000) :
    Calls Try.prog 9 #[.slice A l.length c, .slice B o.length d] w fun e w' => e = .returned (.bool (decide (l = o))) ∧ Below w.heap.size w w' := by
  by_cases hne : l.length = o.length
  case neg =>
    have HF : Hid (decide (l = o) = false) := decide_eq_false fun e => hne (by rw [e])
    have t1 : ((l.length : Int) != o.length) = true := bne_iff_ne.2 (by omega)
    go_enter Try.func9, Try.ntmps9
    go_wp2
    go_ret
    exact ⟨by rw [HF.out]; rfl, Below.refl _ _⟩
  have HR := Lib.hid hr
  have HS := Lib.hid hs
  have HN := Lib.hid hne
  have t1 : ((l.length : Int) != o.length) = false := by rw [hne]; simp
  clear hr hs hne
  go_enter Try.func9, Try.ntmps9
  go_wp2
  go_loopw [5] (fun t5 wr => ∃ k : Nat, t5 = .int .i64 k ∧ k ≤ l.length ∧ Hid (o.take k = l.take k) ∧ Hid (Below w.heap.size w wr)) (fun t5 _ => l.length - (match t5 with | .int _ k => k.toNat | _ => 0))
  case atStart => exact ⟨0, rfl, Nat.zero_le _, rfl, Below.refl _ _⟩
  case round =>
    obtain ⟨k, rfl, hko, HK, HB⟩ := hrel
    by_cases hk : k < l.length
    · obtain ⟨x, hx⟩ : ∃ x, o[k]? = some x := ⟨_, List.getElem?_eq_getElem (by have := HN.out; omega)⟩
      obtain ⟨y, hy⟩ : ∃ y, l[k]? = some y := ⟨_, List.getElem?_eq_getElem hk⟩
      have hk2 : k < o.length := by have := HN.out; omega
      obtain ⟨b1, off1, rfl, hc1⟩ := (HS.out.below HB.out).at_ hx
      obtain ⟨b2, off2, rfl, hc2⟩ := (HR.out.below HB.out).at_ hy
      have HX : Hid (o.take (k + 1) = o.take k ++ [x] ∧ l.take (k + 1) = l.take k ++ [y]) := ⟨take_snoc hx, take_snoc hy⟩
      have HXY : Hid (o[k]? = some x ∧ l[k]? = some y) := ⟨hx, hy⟩
      clear hx hy
      by_cases he : y = x
      · have e1 : ((strOf y).toList == (strOf x).toList) = true := by rw [strOf_beq]; exact decide_eq_true he
        go_wp2_with fail
        go_quiet (fail)
        go_wp2_with fail
        go_roundw
        case rel => exact ⟨k + 1, by go_num, by omega, by show _ = _; rw [HX.out.1, HX.out.2, HK.out, he], below_more HB.out _⟩
        case measure => simp; omega
      · have e1 : ((strOf y).toList == (strOf x).toList) = false := by rw [strOf_beq]; exact decide_eq_false he
        have HF : Hid (decide (l = o) = false) := decide_eq_false fun e => he (by
          have h1 := HXY.out.1
          rw [← e, HXY.out.2] at h1
          exact Option.some.inj h1)
        go_wp2_with fail
        go_quiet (fail)
        go_wp2_with fail
        go_ret
        exact ⟨by rw [HF.out]; rfl, below_more HB.out _⟩
    · obtain rfl : k = l.length := by omega
      have HF : Hid (decide (l = o) = true) := decide_eq_true (by have := HK.out; rw [List.take_length, HN.out, List.take_length] at this; exact this.symm)
      go_wp2
      go_ret
      exact ⟨by rw [HF.out]; rfl, HB.out⟩

set_option maxHeartbeats 1000000 in
set_option maxRecDepth 100000 in
theorem head_any (l : Bs) (n : Nat) (w : World) (_hl : l.length ≤ 9223372036854775807) (_hn : n ≤ 1000000) : Calls Try.prog 12 #[.string (strOf l), .int .i64 (n : Nat)] w fun e w' => e = .returned (.string (strOf (l.take n))) ∧ w = w' := by
  have e0 := strOf_size l
  by_cases h : n < l.length
  · have hsl := fun wx => str_h l n (by omega) wx
    go_enter Try.func12, Try.ntmps12
    go_wp2
    go_ret
    exact ⟨rfl, rfl⟩
  · have HE : Hid (l.take n = l) := List.take_of_length_le (by omega)
    go_enter Try.func12, Try.ntmps12
    go_wp2
    go_ret
    exact ⟨by rw [HE.out]; rfl, rfl⟩
end Go.Proofs.Ytmdffakhejdkoaa
