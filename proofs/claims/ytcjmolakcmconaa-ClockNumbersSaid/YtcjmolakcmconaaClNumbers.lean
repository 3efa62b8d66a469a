/-
  OWN WORK. ClockNumbers: the law's walk.
-/
import Derived.Test.YtcjmolakcmconaaClCode
import Derived.Test.YtcjmolakcmconaaClU64s
namespace Go.Proofs.Ytcjmolakcmconaa
open Go.RowKit

/-- The times that are held. -/
def stamps : List Int := [0, 1, 5, 1099511627775, 1099511627776, 1099511627777, 18446744073709551615]

theorem below_more (w : World) (o : Obj) : Below w.heap.size w (w.alloc o) := (Below.refl _ _).alloc (Nat.le_refl _) o

set_option maxHeartbeats 8000000 in
set_option maxRecDepth 100000 in
theorem numbers_any (w : World) : Calls Try.prog 3 #[] w fun e w' => e = .returned (.bool true) ∧ Below w.heap.size w w' := by
  go_enter Try.func3, Try.ntmps3
  go_wp2_with fail
  refine wp_world (fun wm => RdU wm (some ⟨w.heap.size, 0, none⟩) stamps ∧ Below w.heap.size w wm) ⟨rdu_alloc w stamps _ _, below_more w _⟩ ?_
  intro wm ⟨hr, hb⟩
  have HR := Lib.hid hr
  have HBW := Lib.hid hb
  clear hr hb
  go_loopw [8] (fun t8 wr => ∃ k : Nat, t8 = .int .i64 k ∧ k ≤ 7 ∧ Hid (Below wm.heap.size wm wr)) (fun t8 _ => 7 - (match t8 with | .int _ k => k.toNat | _ => 0))
  case atStart => exact ⟨0, rfl, Nat.zero_le _, Below.refl _ _⟩
  case round =>
    obtain ⟨k, rfl, hk, HW⟩ := hrel
    by_cases hlt : k < 7
    · obtain ⟨a, ha⟩ : ∃ a, stamps[k]? = some a := ⟨_, List.getElem?_eq_getElem hlt⟩
      obtain ⟨b, off, e, hbn, hcell⟩ := (HR.out.below HW.out (Nat.le_refl _)) k a ha
      injection e with e
      injection e with e1 e2 _
      subst e1 e2
      clear ha hbn
      rw [Nat.zero_add] at hcell
      go_wp2_with fail
      obtain ⟨v, hv⟩ : ∃ v : World, v = wr := ⟨_, rfl⟩
      refine wp_world (fun wn => RdU wn (some ⟨wr.heap.size, 0, none⟩) stamps ∧ Below wm.heap.size wm wn) ⟨rdu_alloc wr stamps _ _, HW.out.trans ((below_more wr _).mono HW.out.size)⟩ ?_
      intro wn ⟨hr, hb⟩
      obtain ⟨g, hg⟩ : ∃ g, g = wr.heap.size := ⟨_, rfl⟩
      rw [← hg] at hr ⊢
      have HR2 := Lib.hid hr
      have HW2 := Lib.hid hb
      clear hr hb hcell hg hv HW v
      go_loopw [14] (fun t14 wq => ∃ j : Nat, t14 = .int .i64 j ∧ j ≤ 7 ∧ wq = wn) (fun t14 _ => 7 - (match t14 with | .int _ j => j.toNat | _ => 0))
      case atStart => exact ⟨0, rfl, Nat.zero_le _, rfl⟩
      case round =>
        obtain ⟨j, rfl, hj, rfl⟩ := hrel
        by_cases hlj : j < 7
        · obtain ⟨b, hb⟩ : ∃ b, stamps[j]? = some b := ⟨_, List.getElem?_eq_getElem hlj⟩
          obtain ⟨bb, off, e, hbn, hcell⟩ := HR2.out j b hb
          injection e with e
          injection e with e1 e2 _
          subst e1 e2
          clear hb hbn
          rw [Nat.zero_add] at hcell
          have e0 : nextOf a b = if b ≤ 1099511627776 ∧ a < b then b else a := by
            unfold nextOf
            by_cases h : b ≤ 1099511627776 <;> by_cases h2 : a < b <;> simp [h, h2]
          have E0 := Lib.hid e0
          clear e0
          by_cases hb : b ≤ 1099511627776 <;> by_cases hab : a < b <;> by_cases ha : a ≤ 1099511627776 <;> by_cases hge : a ≤ b
          all_goals try omega
          all_goals
            have HB := Lib.hid hb
            have HL := Lib.hid hab
            have HA := Lib.hid ha
            have HG := Lib.hid hge
            go_wp2_with fail
            refine (next_any _ a b).mono ?_
            rintro e _ ⟨rfl, rfl⟩
            have e1 := E0.out
            have q1 := HB.out
            have q2 := HL.out
            first
              | rw [if_pos (by omega)] at e1
              | rw [if_neg (by omega)] at e1
            clear q1 q2
            rw [e1]
            clear e1
            go_wp2_with fail
            refine (due_any _ a b).mono ?_
            rintro e _ ⟨rfl, rfl⟩
            have q1 := HB.out
            have q2 := HL.out
            have q3 := HA.out
            have q4 := HG.out
            first
              | rw [show (decide (b ≤ a)) = true from by simp; omega]
              | rw [show (decide (b ≤ a)) = false from by simp; omega]
            clear q1 q2 q3 q4
            go_wp2_with fail
            refine (longer_any _ a b).mono ?_
            rintro e _ ⟨rfl, rfl⟩
            have q1 := HB.out
            have q2 := HL.out
            have q3 := HA.out
            have q4 := HG.out
            first
              | rw [show (decide (b ≤ 1099511627776) && decide (a ≤ b)) = true from by simp; omega]
              | rw [show (decide (b ≤ 1099511627776) && decide (a ≤ b)) = false from by simp; omega]
            clear q1 q2 q3 q4
            go_wp2_with fail
            refine (right_any _ a).mono ?_
            rintro e _ ⟨rfl, rfl⟩
            have q1 := HB.out
            have q2 := HL.out
            have q3 := HA.out
            have q4 := HG.out
            first
              | rw [show (decide (a ≤ 1099511627776)) = true from by simp; omega]
              | rw [show (decide (a ≤ 1099511627776)) = false from by simp; omega]
            clear q1 q2 q3 q4
            go_wp2_with fail
            go_roundw
            case rel => exact ⟨j + 1, rfl, by omega, trivial⟩
            case measure => simp; omega
        · obtain rfl : j = 7 := by omega
          go_wp2_with fail
          go_roundw
          case rel => exact ⟨k + 1, rfl, by omega, HW2.out⟩
          case measure => simp; omega
    · obtain rfl : k = 7 := by omega
      have HB0 : Hid (Below w.heap.size w wr) := HBW.out.trans (HW.out.mono HBW.out.size)
      clear HBW HW HR
      go_wp2_with fail
      refine (known_any _).mono ?_
      rintro e _ ⟨rfl, rfl⟩
      go_wp2_with fail
      go_ret
      exact ⟨rfl, HB0.out⟩
end Go.Proofs.Ytcjmolakcmconaa
