/-
  OWN WORK. Names: Good, Within: the document's; Same.
-/
import Derived.Test.YtombmeppdhhjhaaR04
namespace Go.Proofs.Ytombmeppdhhjhaa
open Go.RowKit

/-- A byte of a name, as its number. -/
theorem okByte_nat (c : UInt8) : Pa.okByte c = ((decide (97 ≤ c.toNat) && decide (c.toNat ≤ 122)) || (decide (48 ≤ c.toNat) && decide (c.toNat ≤ 57)) || decide (c.toNat = 46) || decide (c.toNat = 45) || decide (c.toNat = 95)) := by
  have e : ∀ k : UInt8, (c == k) = decide (c.toNat = k.toNat) := fun k => by
    by_cases h : c = k
    · subst h; simp
    · rw [beq_eq_false_iff_ne.2 h]
      exact (decide_eq_false fun h2 => h (UInt8.toNat_inj.1 h2)).symm
  unfold Pa.okByte
  rw [e, e, e]
  rfl
set_option maxHeartbeats 4000000 in
set_option maxRecDepth 100000 in
theorem refGood_any (l : Bs) (w : World) (hl : l.length ≤ 9223372036854775807) : Calls Try.prog 98 #[.string (strOf l)] w fun e w' => e = .returned (.bool (Pa.good l)) ∧ w = w' := by
  have e0 := strOf_size l
  have e1 := strOf_lit l [46]
  have e2 := strOf_lit l [46, 46]
  have HG : Hid (Pa.good l = (l.all Pa.okByte && (decide (1 ≤ l.length) && (decide (l.length ≤ 16) && (!decide (l = [46]) && !decide (l = [46, 46])))))) := by
    show _ = _
    have e : ∀ k : Bs, (l != k) = !decide (l = k) := fun k => by
      by_cases h : l = k
      · subst h; simp
      · rw [decide_eq_false h]; exact bne_iff_ne.2 h
    unfold Pa.good
    rw [e, e, Bool.and_assoc, Bool.and_assoc, Bool.and_assoc]
  go_enter Try.func98, Try.ntmps98
  go_wp2
  go_loopw [3] (fun t3 wr => ∃ k : Nat, t3 = .int .i64 k ∧ Hid (Oks l k) ∧ wr = w) (fun t3 _ => l.length - (match t3 with | .int _ k => k.toNat | _ => 0))
  case atStart => exact ⟨0, rfl, Oks.zero l, rfl⟩
  case round =>
    obtain ⟨k, rfl, HO, rfl⟩ := hrel
    by_cases hk : k < l.length
    · obtain ⟨c, hc⟩ : ∃ c, l[k]? = some c := ⟨_, List.getElem?_eq_getElem hk⟩
      have hix := fun wx => str_at hc wx
      have HC := Lib.hid hc
      have HB := Lib.hid (okByte_nat c)
      clear hc
      obtain ⟨n, hn⟩ : ∃ n, n = c.toNat := ⟨_, rfl⟩
      rw [← hn] at hix HB
      have good : Pa.okByte c = true → Hid (Oks l (k + 1)) := fun h => HO.out.step HC.out h
      have bad : Pa.okByte c = false → Hid (Pa.good l = false) := fun h => by show _ = _; rw [HG.out, bad_at HC.out h]; rfl
      have hn256 : n < 256 := by rw [hn]; exact c.toNat_lt
      clear hn HC
      by_cases h1 : n = 46
      · have HO2 := good (by rw [HB.out, h1]; rfl)
        clear good bad HB
        subst h1
        go_wp2
        go_roundw
        case rel => exact ⟨k + 1, rfl, HO2.out, by first | rfl | trivial⟩
        case measure => simp; omega
      by_cases h2 : n = 45
      · have HO2 := good (by rw [HB.out, h2]; rfl)
        clear good bad HB
        subst h2
        go_wp2
        go_roundw
        case rel => exact ⟨k + 1, rfl, HO2.out, by first | rfl | trivial⟩
        case measure => simp; omega
      by_cases h3 : n = 95
      · have HO2 := good (by rw [HB.out, h3]; rfl)
        clear good bad HB
        subst h3
        go_wp2
        go_roundw
        case rel => exact ⟨k + 1, rfl, HO2.out, by first | rfl | trivial⟩
        case measure => simp; omega
      have f1 : ((n : Int) == 46) = false := beq_eq_false_iff_ne.2 (by omega)
      have f2 : ((n : Int) == 45) = false := beq_eq_false_iff_ne.2 (by omega)
      have f3 : ((n : Int) == 95) = false := beq_eq_false_iff_ne.2 (by omega)
      by_cases g1 : 97 ≤ n
      · by_cases g2 : n ≤ 122
        · have HO2 := good (by rw [HB.out]; simp [g1, g2])
          clear good bad HB
          go_wp2
          all_goals
            go_roundw
            case rel => exact ⟨k + 1, rfl, HO2.out, by first | rfl | trivial⟩
            case measure => simp; omega
        · have HF := bad (by rw [HB.out]; simp [g2, h1, h2, h3]; omega)
          clear good bad HB
          have d1 : decide ((n : Int) ≤ 122) = false := decide_eq_false (by omega)
          have d2 : decide ((n : Int) ≤ 57) = false := decide_eq_false (by omega)
          go_wp2
          go_ret
          exact ⟨by rw [HF.out]; rfl, rfl⟩
      · by_cases g2 : 48 ≤ n
        · by_cases g3 : n ≤ 57
          · have HO2 := good (by rw [HB.out]; simp [g2, g3])
            clear good bad HB
            go_wp2
            all_goals
              go_roundw
              case rel => exact ⟨k + 1, rfl, HO2.out, by first | rfl | trivial⟩
              case measure => simp; omega
          · have HF := bad (by rw [HB.out]; simp [g3, h1, h2, h3]; omega)
            clear good bad HB
            have d1 : decide ((97 : Int) ≤ n) = false := decide_eq_false (by omega)
            have d2 : decide ((n : Int) ≤ 57) = false := decide_eq_false (by omega)
            go_wp2
            go_ret
            exact ⟨by rw [HF.out]; rfl, rfl⟩
        · have HF := bad (by rw [HB.out]; simp [g2, h1, h2, h3]; omega)
          clear good bad HB
          go_wp2
          go_ret
          exact ⟨by rw [HF.out]; rfl, rfl⟩
    · obtain rfl : k = l.length := by have := HO.out.1; omega
      have HF : Hid (Pa.good l = (decide (1 ≤ l.length) && (decide (l.length ≤ 16) && (!decide (l = [46]) && !decide (l = [46, 46]))))) := by show _ = _; rw [HG.out, HO.out.all, Bool.true_and]
      by_cases a1 : 1 ≤ l.length
      · by_cases a2 : l.length ≤ 16
        · by_cases a3 : l = [46]
          · have e3 : ((strOf l).toList == [46]) = true := by rw [e1, decide_eq_true a3]
            have HF2 : Hid (Pa.good l = false) := by show _ = _; rw [HF.out, decide_eq_true a3]; simp
            clear e1 a3
            go_wp2
            go_ret
            exact ⟨by rw [HF2.out]; rfl, rfl⟩
          · have e3 : ((strOf l).toList == [46]) = false := by rw [e1, decide_eq_false a3]
            by_cases a4 : l = [46, 46]
            · have e4 : ((strOf l).toList == [46, 46]) = true := by rw [e2, decide_eq_true a4]
              have HF2 : Hid (Pa.good l = false) := by show _ = _; rw [HF.out, decide_eq_true a4]; simp
              clear e1 e2 a3 a4
              go_wp2
              go_ret
              exact ⟨by rw [HF2.out]; rfl, rfl⟩
            · have e4 : ((strOf l).toList == [46, 46]) = false := by rw [e2, decide_eq_false a4]
              have HF2 : Hid (Pa.good l = true) := by show _ = _; rw [HF.out, decide_eq_true a1, decide_eq_true a2, decide_eq_false a3, decide_eq_false a4]; rfl
              clear e1 e2 a3 a4
              go_wp2
              go_ret
              exact ⟨by rw [HF2.out]; rfl, rfl⟩
        · have HF2 : Hid (Pa.good l = false) := by show _ = _; rw [HF.out, decide_eq_false a2]; simp
          go_wp2
          go_ret
          exact ⟨by rw [HF2.out]; rfl, rfl⟩
      · have HF2 : Hid (Pa.good l = false) := by show _ = _; rw [HF.out, decide_eq_false a1]; rfl
        go_wp2
        go_ret
        exact ⟨by rw [HF2.out]; rfl, rfl⟩
theorem below_drewPt (w : World) (n b : Nat) : Below b w (w.drewN n) := ⟨rfl, rfl, rfl, Nat.le_refl _, fun _ _ => rfl⟩
theorem below_morePt {w wr : World} (h : Below w.heap.size w wr) (n : Nat) : Below w.heap.size w (wr.drewN n) := h.trans (below_drewPt _ _ _)
set_option maxHeartbeats 1000000 in
set_option maxRecDepth 100000 in
theorem refWithin_names (w : World) (l o : List Bs) (A B : Option Addr) (c d : Nat) (hr : RdS w A l) (hs : RdS w B o) (_hl : l.length ≤ 1000000) (ho : o.length ≤ 1000000) :
    Calls Try.prog 90 #[.slice A l.length c, .slice B o.length d] w fun e w' => e = .returned (.bool (decide (o = l.take o.length))) ∧ Below w.heap.size w w' := by
  by_cases hgt : l.length < o.length
  · have HF : Hid (decide (o = l.take o.length) = false) := decide_eq_false fun e => by have := congrArg List.length e; rw [List.length_take] at this; omega
    go_enter Try.func90, Try.ntmps90
    go_wp2
    go_ret
    exact ⟨by rw [HF.out]; rfl, Below.refl _ _⟩
  have HR := Lib.hid hr
  have HS := Lib.hid hs
  clear hr hs
  go_enter Try.func90, Try.ntmps90
  go_wp2
  go_loopw [5] (fun t5 wr => ∃ k : Nat, t5 = .int .i64 k ∧ k ≤ o.length ∧ Hid (o.take k = l.take k) ∧ Hid (Below w.heap.size w wr)) (fun t5 _ => o.length - (match t5 with | .int _ k => k.toNat | _ => 0))
  case atStart => exact ⟨0, rfl, Nat.zero_le _, rfl, Below.refl _ _⟩
  case round =>
    obtain ⟨k, rfl, hko, HK, HB⟩ := hrel
    by_cases hk : k < o.length
    · obtain ⟨x, hx⟩ : ∃ x, o[k]? = some x := ⟨_, List.getElem?_eq_getElem hk⟩
      obtain ⟨y, hy⟩ : ∃ y, l[k]? = some y := ⟨_, List.getElem?_eq_getElem (by omega)⟩
      obtain ⟨b1, off1, rfl, hc1⟩ := (HS.out.below HB.out).at_ hx
      obtain ⟨b2, off2, rfl, hc2⟩ := (HR.out.below HB.out).at_ hy
      have HX : Hid (o.take (k + 1) = o.take k ++ [x] ∧ l.take (k + 1) = l.take k ++ [y]) := ⟨take_snoc hx, take_snoc hy⟩
      have HXY : Hid (o[k]? = some x ∧ l[k]? = some y) := ⟨hx, hy⟩
      clear hx hy
      by_cases he : y = x
      · have e1 : ((strOf y).toList == (strOf x).toList) = true := by rw [strOf_beq]; exact decide_eq_true he
        go_wp2_with fail
        go_quiet (fail)
        go_wp2_with fail
        go_roundw
        case rel => exact ⟨k + 1, by go_num, by omega, by show _ = _; rw [HX.out.1, HX.out.2, HK.out, he], below_morePt HB.out _⟩
        case measure => simp; omega
      · have e1 : ((strOf y).toList == (strOf x).toList) = false := by rw [strOf_beq]; exact decide_eq_false he
        have HF : Hid (decide (o = l.take o.length) = false) := decide_eq_false fun e => he (by
          have h1 := HXY.out.1
          rw [e, List.getElem?_take_of_lt hk, HXY.out.2] at h1
          exact Option.some.inj h1)
        go_wp2_with fail
        go_quiet (fail)
        go_wp2_with fail
        go_ret
        exact ⟨by rw [HF.out]; rfl, below_morePt HB.out _⟩
    · obtain rfl : k = o.length := by omega
      have HF : Hid (decide (o = l.take o.length) = true) := decide_eq_true (by have := HK.out; rw [List.take_length] at this; exact this)
      go_wp2
      go_ret
      exact ⟨by rw [HF.out]; rfl, HB.out⟩
set_option maxHeartbeats 1000000 in
set_option maxRecDepth 100000 in
theorem sameS_any (w : World) (l o : List Bs) (A B : Option Addr) (c d : Nat) (hr : RdS w A l) (hs : RdS w B o) (hl : l.length ≤ 1000000000) (_ho : o.length ≤ 1000000000) :
    Calls Try.prog 66 #[.slice A l.length c, .slice B o.length d] w fun e w' => e = .returned (.bool (decide (l = o))) ∧ Below w.heap.size w w' := by
  by_cases hne : l.length = o.length
  case neg =>
    have HF : Hid (decide (l = o) = false) := decide_eq_false fun e => hne (by rw [e])
    have t1 : ((l.length : Int) != o.length) = true := bne_iff_ne.2 (by omega)
    go_enter Try.func66, Try.ntmps66
    go_wp2
    go_ret
    exact ⟨by rw [HF.out]; rfl, Below.refl _ _⟩
  have HR := Lib.hid hr
  have HS := Lib.hid hs
  have HN := Lib.hid hne
  have t1 : ((l.length : Int) != o.length) = false := by rw [hne]; simp
  clear hr hs hne
  go_enter Try.func66, Try.ntmps66
  go_wp2
  go_loopw [5] (fun t5 wr => ∃ k : Nat, t5 = .int .i64 k ∧ k ≤ l.length ∧ Hid (o.take k = l.take k) ∧ Hid (Below w.heap.size w wr)) (fun t5 _ => l.length - (match t5 with | .int _ k => k.toNat | _ => 0))
  case atStart => exact ⟨0, rfl, Nat.zero_le _, rfl, Below.refl _ _⟩
  case round =>
    obtain ⟨k, rfl, hko, HK, HB⟩ := hrel
    by_cases hk : k < l.length
    · obtain ⟨x, hx⟩ : ∃ x, o[k]? = some x := ⟨_, List.getElem?_eq_getElem (by have := HN.out; omega)⟩
      obtain ⟨y, hy⟩ : ∃ y, l[k]? = some y := ⟨_, List.getElem?_eq_getElem hk⟩
      have hk2 : k < o.length := by have := HN.out; omega
      obtain ⟨b1, off1, rfl, hc1⟩ := (HS.out.below HB.out).at_ hx
      obtain ⟨b2, off2, rfl, hc2⟩ := (HR.out.below HB.out).at_ hy
      have HX : Hid (o.take (k + 1) = o.take k ++ [x] ∧ l.take (k + 1) = l.take k ++ [y]) := ⟨take_snoc hx, take_snoc hy⟩
      have HXY : Hid (o[k]? = some x ∧ l[k]? = some y) := ⟨hx, hy⟩
      clear hx hy
      by_cases he : y = x
      · have e1 : ((strOf y).toList == (strOf x).toList) = true := by rw [strOf_beq]; exact decide_eq_true he
        go_wp2_with fail
        go_quiet (fail)
        go_wp2_with fail
        go_roundw
        case rel => exact ⟨k + 1, by go_num, by omega, by show _ = _; rw [HX.out.1, HX.out.2, HK.out, he], below_morePt HB.out _⟩
        case measure => simp; omega
      · have e1 : ((strOf y).toList == (strOf x).toList) = false := by rw [strOf_beq]; exact decide_eq_false he
        have HF : Hid (decide (l = o) = false) := decide_eq_false fun e => he (by
          have h1 := HXY.out.1
          rw [← e, HXY.out.2] at h1
          exact Option.some.inj h1)
        go_wp2_with fail
        go_quiet (fail)
        go_wp2_with fail
        go_ret
        exact ⟨by rw [HF.out]; rfl, below_morePt HB.out _⟩
    · obtain rfl : k = l.length := by omega
      have HF : Hid (decide (l = o) = true) := decide_eq_true (by have := HK.out; rw [List.take_length, HN.out, List.take_length] at this; exact this.symm)
      go_wp2
      go_ret
      exact ⟨by rw [HF.out]; rfl, HB.out⟩
end Go.Proofs.Ytombmeppdhhjhaa
