/-
  OWN WORK. Names: the document's Good, Split, Join, Within.
-/
import Derived.Test.YtmdffakhejdkoaaPaCodeC
namespace Go.Proofs.Ytmdffakhejdkoaa
open Go.RowKit

/-- A byte of a name, as its number. -/
theorem okByte_nat (c : UInt8) : Pa.okByte c = ((decide (97 ≤ c.toNat) && decide (c.toNat ≤ 122)) || (decide (48 ≤ c.toNat) && decide (c.toNat ≤ 57)) || decide (c.toNat = 46) || decide (c.toNat = 45) || decide (c.toNat = 95)) := by
  have e : ∀ k : UInt8, (c == k) = decide (c.toNat = k.toNat) := fun k => by
    by_cases h : c = k
    · subst h; simp
    · rw [beq_eq_false_iff_ne.2 h]
      exact (decide_eq_false fun h2 => h (UInt8.toNat_inj.1 h2)).symm
  unfold Pa.okByte
  rw [e, e, e]
  rfl

set_option maxHeartbeats 4000000 in
set_option maxRecDepth 100000 in
theorem refGood_any (l : Bs) (w : World) (hl : l.length ≤ 9223372036854775807) : Calls Try.prog 19 #[.string (strOf l)] w fun e w' => e = .returned (.bool (Pa.good l)) ∧ w = w' := by
  have e0 := strOf_size l
  have e1 := strOf_lit l [46]
  have e2 := strOf_lit l [46, 46]
  have HG : Hid (Pa.good l = (l.all Pa.okByte && (decide (1 ≤ l.length) && (decide (l.length ≤ 16) && (!decide (l = [46]) && !decide (l = [46, 46])))))) := by
    show _ = _
    have e : ∀ k : Bs, (l != k) = !decide (l = k) := fun k => by
      by_cases h : l = k
      · subst h; simp
      · rw [decide_eq_false h]; exact bne_iff_ne.2 h
    unfold Pa.good
    rw [e, e, Bool.and_assoc, Bool.and_assoc, Bool.and_assoc]
  go_enter Try.func19, Try.ntmps19
  go_wp2
  go_loopw [3] (fun t3 wr => ∃ k : Nat, t3 = .int .i64 k ∧ Hid (Oks l k) ∧ wr = w) (fun t3 _ => l.length - (match t3 with | .int _ k => k.toNat | _ => 0))
  case atStart => exact ⟨0, rfl, Oks.zero l, rfl⟩
  case round =>
    obtain ⟨k, rfl, HO, rfl⟩ := hrel
    by_cases hk : k < l.length
    · obtain ⟨c, hc⟩ : ∃ c, l[k]? = some c := ⟨_, List.getElem?_eq_getElem hk⟩
      have hix := fun wx => str_at hc wx
      have HC := Lib.hid hc
      have HB := Lib.hid (okByte_nat c)
      clear hc
      obtain ⟨n, hn⟩ : ∃ n, n = c.toNat := ⟨_, rfl⟩
      rw [← hn] at hix HB
      have good : Pa.okByte c = true → Hid (Oks l (k + 1)) := fun h => HO.out.step HC.out h
      have bad : Pa.okByte c = false → Hid (Pa.good l = false) := fun h => by show _ = _; rw [HG.out, bad_at HC.out h]; rfl
      have hn256 : n < 256 := by rw [hn]; exact c.toNat_lt
      clear hn HC
      by_cases h1 : n = 46
      · have HO2 := good (by rw [HB.out, h1]; rfl)
        clear good bad HB
        subst h1
        go_wp2
        go_roundw
        case rel => exact ⟨k + 1, rfl, HO2.out, by first | rfl | trivial⟩
        case measure => simp; omega
      by_cases h2 : n = 45
      · have HO2 := good (by rw [HB.out, h2]; rfl)
        clear good bad HB
        subst h2
        go_wp2
        go_roundw
        case rel => exact ⟨k + 1, rfl, HO2.out, by first | rfl | trivial⟩
        case measure => simp; omega
      by_cases h3 : n = 95
      · have HO2 := good (by rw [HB.out, h3]; rfl)
        clear good bad HB
        subst h3
        go_wp2
        go_roundw
        case rel => exact ⟨k + 1, rfl, HO2.out, by first | rfl | trivial⟩
        case measure => simp; omega
      have f1 : ((n : Int) == 46) = false := beq_eq_false_iff_ne.2 (by omega)
      have f2 : ((n : Int) == 45) = false := beq_eq_false_iff_ne.2 (by omega)
      have f3 : ((n : Int) == 95) = false := beq_eq_false_iff_ne.2 (by omega)
      by_cases g1 : 97 ≤ n
      · by_cases g2 : n ≤ 122
        · have HO2 := good (by rw [HB.out]; simp [g1, g2])
          clear good bad HB
          go_wp2
          all_goals
            go_roundw
            case rel => exact ⟨k + 1, rfl, HO2.out, by first | rfl | trivial⟩
            case measure => simp; omega
        · have HF := bad (by rw [HB.out]; simp [g2, h1, h2, h3]; omega)
          clear good bad HB
          have d1 : decide ((n : Int) ≤ 122) = false := decide_eq_false (by omega)
          have d2 : decide ((n : Int) ≤ 57) = false := decide_eq_false (by omega)
          go_wp2
          go_ret
          exact ⟨by rw [HF.out]; rfl, rfl⟩
      · by_cases g2 : 48 ≤ n
        · by_cases g3 : n ≤ 57
          · have HO2 := good (by rw [HB.out]; simp [g2, g3])
            clear good bad HB
            go_wp2
            all_goals
              go_roundw
              case rel => exact ⟨k + 1, rfl, HO2.out, by first | rfl | trivial⟩
              case measure => simp; omega
          · have HF := bad (by rw [HB.out]; simp [g3, h1, h2, h3]; omega)
            clear good bad HB
            have d1 : decide ((97 : Int) ≤ n) = false := decide_eq_false (by omega)
            have d2 : decide ((n : Int) ≤ 57) = false := decide_eq_false (by omega)
            go_wp2
            go_ret
            exact ⟨by rw [HF.out]; rfl, rfl⟩
        · have HF := bad (by rw [HB.out]; simp [g2, h1, h2, h3]; omega)
          clear good bad HB
          go_wp2
          go_ret
          exact ⟨by rw [HF.out]; rfl, rfl⟩
    · obtain rfl : k = l.length := by have := HO.out.1; omega
      have HF : Hid (Pa.good l = (decide (1 ≤ l.length) && (decide (l.length ≤ 16) && (!decide (l = [46]) && !decide (l = [46, 46]))))) := by show _ = _; rw [HG.out, HO.out.all, Bool.true_and]
      by_cases a1 : 1 ≤ l.length
      · by_cases a2 : l.length ≤ 16
        · by_cases a3 : l = [46]
          · have e3 : ((strOf l).toList == [46]) = true := by rw [e1, decide_eq_true a3]
            have HF2 : Hid (Pa.good l = false) := by show _ = _; rw [HF.out, decide_eq_true a3]; simp
            clear e1 a3
            go_wp2
            go_ret
            exact ⟨by rw [HF2.out]; rfl, rfl⟩
          · have e3 : ((strOf l).toList == [46]) = false := by rw [e1, decide_eq_false a3]
            by_cases a4 : l = [46, 46]
            · have e4 : ((strOf l).toList == [46, 46]) = true := by rw [e2, decide_eq_true a4]
              have HF2 : Hid (Pa.good l = false) := by show _ = _; rw [HF.out, decide_eq_true a4]; simp
              clear e1 e2 a3 a4
              go_wp2
              go_ret
              exact ⟨by rw [HF2.out]; rfl, rfl⟩
            · have e4 : ((strOf l).toList == [46, 46]) = false := by rw [e2, decide_eq_false a4]
              have HF2 : Hid (Pa.good l = true) := by show _ = _; rw [HF.out, decide_eq_true a1, decide_eq_true a2, decide_eq_false a3, decide_eq_false a4]; rfl
              clear e1 e2 a3 a4
              go_wp2
              go_ret
              exact ⟨by rw [HF2.out]; rfl, rfl⟩
        · have HF2 : Hid (Pa.good l = false) := by show _ = _; rw [HF.out, decide_eq_false a2]; simp
          go_wp2
          go_ret
          exact ⟨by rw [HF2.out]; rfl, rfl⟩
      · have HF2 : Hid (Pa.good l = false) := by show _ = _; rw [HF.out, decide_eq_false a1]; rfl
        go_wp2
        go_ret
        exact ⟨by rw [HF2.out]; rfl, rfl⟩
end Go.Proofs.Ytmdffakhejdkoaa
