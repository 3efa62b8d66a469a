/-
  OWN WORK. ClockRises: the law's walk.
-/
import Derived.Test.YtcjmolakcmconaaClCode
import Derived.Test.YtcjmolakcmconaaClU64s
namespace Go.Proofs.Ytcjmolakcmconaa
open Go.RowKit

theorem nextOf_up (now tick : Int) (h : now ≤ 1099511627776) : now ≤ nextOf now tick ∧ nextOf now tick ≤ 1099511627776 ∧ (nextOf now tick ≠ now → nextOf now tick = tick) := by
  unfold nextOf
  by_cases h1 : tick ≤ 1099511627776 <;> by_cases h2 : now < tick <;> simp [h1, h2] <;> omega

set_option maxHeartbeats 8000000 in
set_option maxRecDepth 100000 in
theorem rises_any (w : World) (l : List Int) (A : Option Addr) (c : Nat) (u : Int) (hr : RdU w A l) (hl : l.length ≤ 9223372036854775807) : Calls Try.prog 5 #[.slice A l.length c, .int .u64 u] w fun e w' => e = .returned (.bool true) ∧ w' = w := by
  have HR := Lib.hid hr
  have HL := Lib.hid hl
  clear hr hl
  go_enter Try.func5, Try.ntmps5
  go_wp2_with fail
  go_loopw [5, 6, 7] (fun t5 t6 t7 wr => ∃ (n : Int) (d : Bool) (k : Nat), t5 = .int .u64 n ∧ t6 = .bool d ∧ t7 = .int .i64 (k : Nat) ∧ k ≤ l.length ∧ k ≤ 100 ∧ Hid (n ≤ 1099511627776) ∧ Hid (d = true → u ≤ n) ∧ wr = w) (fun _ _ t7 _ => 100 - (match t7 with | .int _ k => k.toNat | _ => 0))
  case atStart => exact ⟨0, false, 0, rfl, rfl, rfl, Nat.zero_le _, Nat.zero_le _, (by decide : (0 : Int) ≤ 1099511627776), fun h => (by cases h), rfl⟩
  case round =>
    obtain ⟨n, d, k, rfl, rfl, rfl, hkl, hk, HN, HD, rfl⟩ := hrel
    by_cases h1 : k < l.length
    · by_cases h2 : k < 100
      · obtain ⟨x, hx⟩ : ∃ x, l[k]? = some x := ⟨_, List.getElem?_eq_getElem h1⟩
        obtain ⟨b, off, rfl, hb, hcell⟩ := HR.out k x hx
        have HX := Lib.hid hx
        have HB := Lib.hid hb
        clear hx hb
        go_wp2_with fail
        refine (next_any _ n x).mono ?_
        rintro e _ ⟨rfl, rfl⟩
        obtain ⟨m, hm⟩ : ∃ m, m = nextOf n x := ⟨_, rfl⟩
        have hu := nextOf_up n x HN.out
        rw [← hm] at hu ⊢
        clear hm
        obtain ⟨hu1, hu2, hu3⟩ := hu
        have HM := Lib.hid hu2
        have HG := Lib.hid hu1
        clear hu2
        by_cases hmn : m = n
        · subst hmn
          clear hu1 hu3
          have hr2 : Hid (decide (m ≤ 1099511627776) = true) := decide_eq_true HM.out
          go_wp2_with fail
          refine (right_any _ m).mono ?_
          rintro e _ ⟨rfl, rfl⟩
          rw [hr2.out]
          cases d
          · go_wp2_with fail
            refine (due_any _ m u).mono ?_
            rintro e _ ⟨rfl, rfl⟩
            go_wp2_with fail
            go_roundw
            case rel => exact ⟨m, decide (u ≤ m), k + 1, rfl, rfl, by go_num, by omega, by omega, HM, fun h => of_decide_eq_true h, trivial⟩
            case measure => simp; omega
          · have hd2 : Hid (decide (u ≤ m) = true) := decide_eq_true (Int.le_trans (HD.out rfl) HG.out)
            go_wp2_with fail
            refine (due_any _ m u).mono ?_
            rintro e _ ⟨rfl, rfl⟩
            rw [hd2.out]
            go_wp2_with fail
            go_roundw
            case rel => exact ⟨m, true, k + 1, rfl, rfl, by go_num, by omega, by omega, HM, fun _ => of_decide_eq_true hd2.out, trivial⟩
            case measure => simp; omega
        · obtain rfl := hu3 hmn
          have hlt : (m < n) = False := by simp; omega
          have hne : (m = n) = False := by simp; omega
          clear hu1 hu3 hmn
          have hr2 : Hid (decide (m ≤ 1099511627776) = true) := decide_eq_true HM.out
          go_wp2_with fail
          refine (right_any _ m).mono ?_
          rintro e _ ⟨rfl, rfl⟩
          rw [hr2.out]
          cases d
          · go_wp2_with fail
            refine (due_any _ m u).mono ?_
            rintro e _ ⟨rfl, rfl⟩
            go_wp2_with fail
            go_roundw
            case rel => exact ⟨m, decide (u ≤ m), k + 1, rfl, rfl, by go_num, by omega, by omega, HM, fun h => of_decide_eq_true h, trivial⟩
            case measure => simp; omega
          · have hd2 : Hid (decide (u ≤ m) = true) := decide_eq_true (Int.le_trans (HD.out rfl) HG.out)
            go_wp2_with fail
            refine (due_any _ m u).mono ?_
            rintro e _ ⟨rfl, rfl⟩
            rw [hd2.out]
            go_wp2_with fail
            go_roundw
            case rel => exact ⟨m, true, k + 1, rfl, rfl, by go_num, by omega, by omega, HM, fun _ => of_decide_eq_true hd2.out, trivial⟩
            case measure => simp; omega
      · obtain rfl : k = 100 := by omega
        go_wp2_with fail
        refine (known_any _).mono ?_
        rintro e _ ⟨rfl, rfl⟩
        go_wp2_with fail
        go_ret
        exact ⟨rfl, rfl⟩
    · obtain rfl : k = l.length := by omega
      go_wp2_with fail
      refine (known_any _).mono ?_
      rintro e _ ⟨rfl, rfl⟩
      go_wp2_with fail
      go_ret
      exact ⟨rfl, rfl⟩

theorem rises_top (w : World) (l : List Int) (A : Option Addr) (c : Nat) (u : Int) (hr : RdU w A l) (hl : l.length ≤ 9223372036854775807) : Calls Try.prog 5 #[.slice A l.length c, .int .u64 u] w fun e w' => e = .returned (.bool true) ∧ Below w.heap.size w w' :=
  (rises_any w l A c u hr hl).mono fun _ _ h => ⟨h.1, by rw [h.2]; exact Below.refl _ _⟩
end Go.Proofs.Ytcjmolakcmconaa
