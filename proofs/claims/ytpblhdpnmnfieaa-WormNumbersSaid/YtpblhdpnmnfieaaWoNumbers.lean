/-
  OWN WORK. Law 12's WormNumbers, walked: chapter 12's runs, and each rule at its bounds.
-/
import Derived.Test.YtpblhdpnmnfieaaWoNil
import Derived.Test.YtpblhdpnmnfieaaClU64s
namespace Go.Proofs.Ytpblhdpnmnfieaa
open Go.RowKit
namespace Wo
def nws : List Int := [0, 4, 5, 6, 1099511627776]
def uns : List Int := [0, 4, 5, 6, 1099511627776, 1099511627777]
theorem nws_in : ∀ x ∈ nws, 0 ≤ x := by decide
theorem uns_in : ∀ x ∈ uns, 0 ≤ x := by decide
/-- What is read of a row of u64 numbers. -/
theorem rdu_at {w : World} {g : Nat} {l : List Int} (h : RdU w (some ⟨g, 0, none⟩) l) {j : Nat} {x : Int} (hx : l[j]? = some x) : g < w.heap.size ∧ w.cell? ⟨g, j, none⟩ = some (.int .u64 x) := by
  have h2 := h j x hx
  obtain ⟨b, off, e, hg, hc⟩ := h2
  injection e with e
  injection e with e1 e2 _
  subst e1 e2
  rw [Nat.zero_add] at hc
  exact ⟨hg, hc⟩

set_option maxHeartbeats 8000000 in
set_option maxRecDepth 100000 in
theorem numbers_any (w : World) : Calls Try.prog 3 #[] w fun e w' => e = .returned (.bool true) ∧ Below w.heap.size w w' := by
  go_enter Try.func3, Try.ntmps3
  go_wp2_with fail
  go_loopw [1] (fun t1 wr => ∃ k : Int, 0 ≤ k ∧ k ≤ 4 ∧ t1 = .int .i64 k ∧ Hid (Below w.heap.size w wr)) (fun t1 _ => (4 - intOf t1).toNat)
  case atStart => exact ⟨0, by decide, by decide, rfl, Below.refl _ _⟩
  case round =>
    obtain ⟨k, hk0, hk1, rfl, HW⟩ := hrel
    by_cases hlt : k < 4
    · skip
      go_wp2_with fail
      go_loopw [2] (fun t2 wr => ∃ h : Int, 0 ≤ h ∧ h ≤ 4 ∧ t2 = .int .i64 h ∧ Hid (Below w.heap.size w wr)) (fun t2 _ => (4 - intOf t2).toNat)
      case atStart => exact ⟨0, by decide, by decide, rfl, HW.out⟩
      case round =>
        clear HW
        obtain ⟨h, hh0, hh1, rfl, HW⟩ := hrel
        by_cases hlh : h < 4
        · skip
          go_wp2_with fail
          go_loopw [3] (fun t3 wr => ∃ i : Int, 0 ≤ i ∧ i ≤ 2 ∧ t3 = .int .i64 i ∧ Hid (Below w.heap.size w wr)) (fun t3 _ => (2 - intOf t3).toNat)
          case atStart => exact ⟨0, by decide, by decide, rfl, HW.out⟩
          case round =>
            clear HW
            obtain ⟨i, hi0, hi1, rfl, HW⟩ := hrel
            by_cases hli : i < 2
            · skip
              obtain ⟨q, hq⟩ : ∃ q, q = (i == 1) := ⟨_, rfl⟩
              have hq1 : (i == 1) = q := hq.symm
              clear hq
              go_wp2_with fail
              obtain ⟨g, hg⟩ : ∃ g, g = wr.heap.size := ⟨_, rfl⟩
              refine wp_world (fun wm => Hid (RdU wm (some ⟨wr.heap.size, 0, none⟩) nws) ∧ Hid (Below w.heap.size w wm)) ⟨rdu_alloc wr nws _ _, HW.out.trans ((below_new wr _).mono HW.out.size)⟩ ?_
              rw [← hg]
              clear hg HW
              rintro wm ⟨HRL, HW⟩
              go_loopw [22] (fun t22 wr => ∃ j : Nat, j ≤ 5 ∧ t22 = .int .i64 j ∧ Hid (RdU wr (some ⟨g, 0, none⟩) nws) ∧ Hid (Below w.heap.size w wr)) (fun t22 _ => 5 - (intOf t22).toNat)
              case atStart => exact ⟨0, by decide, rfl, HRL.out, HW.out⟩
              case round =>
                clear HRL HW
                obtain ⟨j, hj, rfl, HRL, HW⟩ := hrel
                by_cases hlj : j < 5
                · skip
                  obtain ⟨x, hx⟩ : ∃ x, nws[j]? = some x := ⟨_, List.getElem?_eq_getElem hlj⟩
                  obtain ⟨hgl, hcell⟩ := rdu_at HRL.out hx
                  have HX0 := Lib.hid (nws_in x (List.mem_of_getElem? hx))
                  clear hx hgl
                  have hlj2 : decide ((j : Int) < 5) = true := by simp; omega
                  go_wp2_with fail
                  obtain ⟨g2, hg2⟩ : ∃ g2, g2 = wr.heap.size := ⟨_, rfl⟩
                  refine wp_world (fun wm => Hid (RdU wm (some ⟨wr.heap.size, 0, none⟩) uns) ∧ Hid (RdU wm (some ⟨g, 0, none⟩) nws) ∧ Hid (Below w.heap.size w wm)) ⟨rdu_alloc wr uns _ _, HRL.out.below (below_new wr _) (Nat.le_refl _), HW.out.trans ((below_new wr _).mono HW.out.size)⟩ ?_
                  rw [← hg2]
                  clear hg2 HW HRL hcell
                  rintro wm ⟨HRU, HRL, HW⟩
                  go_loopw [28] (fun t28 wr => ∃ m : Nat, m ≤ 6 ∧ t28 = .int .i64 m ∧ Hid (RdU wr (some ⟨g2, 0, none⟩) uns) ∧ Hid (RdU wr (some ⟨g, 0, none⟩) nws) ∧ Hid (Below w.heap.size w wr)) (fun t28 _ => 6 - (intOf t28).toNat)
                  case atStart => exact ⟨0, by decide, rfl, HRU.out, HRL.out, HW.out⟩
                  case round =>
                    clear HRU HRL HW
                    obtain ⟨m, hm, rfl, HRU, HRL, HW⟩ := hrel
                    by_cases hlm : m < 6
                    · skip
                      obtain ⟨y, hy⟩ : ∃ y, uns[m]? = some y := ⟨_, List.getElem?_eq_getElem hlm⟩
                      obtain ⟨hgl, hcell⟩ := rdu_at HRU.out hy
                      have HY0 := Lib.hid (uns_in y (List.mem_of_getElem? hy))
                      have HS : Hid (∀ w, Calls Try.prog 8 #[.agg #[.int .i64 0, .int .i64 k, .int .i64 h, .int .i64 0, .int .u64 5, .bool q], .int .u64 x, .int .u64 y] w fun e w' => e = .returned (.bool true) ∧ Below w.heap.size w w') := by
                        intro w
                        have := same_any ⟨0, k, h, 0, 5, q⟩ x.toNat y.toNat w
                        rw [as_, Int.toNat_of_nonneg HX0.out, Int.toNat_of_nonneg HY0.out] at this
                        exact this
                      clear hy hgl
                      go_wp2_with fail
                      refine (HS.out _).mono ?_
                      rintro e w2 ⟨rfl, hb⟩
                      have HRU2 := Lib.hid (HRU.out.below hb (Nat.le_refl _))
                      have HRL2 := Lib.hid (HRL.out.below hb (Nat.le_refl _))
                      have HW2 := Lib.hid (HW.out.trans (hb.mono HW.out.size))
                      clear HRU HRL HW hb hcell
                      go_wp2_with fail
                      go_roundw
                      case rel => exact ⟨m + 1, by omega, by go_num, HRU2, HRL2, HW2⟩
                      case measure => simp [intOf]; omega
                    · obtain rfl : m = 6 := by omega
                      go_wp2_with fail
                      go_roundw
                      case rel => exact ⟨j + 1, by omega, by go_num, HRL, HW⟩
                      case measure => simp [intOf]; omega
                · obtain rfl : j = 5 := by omega
                  go_wp2_with fail
                  go_roundw
                  case rel => exact ⟨i + 1, by omega, by omega, by go_num, HW⟩
                  case measure => simp [intOf]; omega
            · obtain rfl : i = 2 := by omega
              go_wp2_with fail
              go_roundw
              case rel => exact ⟨h + 1, by omega, by omega, by go_num, HW⟩
              case measure => simp [intOf]; omega
        · obtain rfl : h = 4 := by omega
          go_wp2_with fail
          go_roundw
          case rel => exact ⟨k + 1, by omega, by omega, by go_num, HW⟩
          case measure => simp [intOf]; omega
    · obtain rfl : k = 4 := by omega
      have HNL := Lib.hid (nil_live_any 5 wr)
      have HNB := Lib.hid (nil_bound_any 5 wr)
      have HKN := Lib.hid (known_any wr)
      go_wp2_with fail
      refine HNL.out.mono ?_
      rintro e w1 ⟨rfl, hw1⟩
      obtain rfl := hw1.symm
      go_wp2_with fail
      refine HNB.out.mono ?_
      rintro e w1 ⟨rfl, hw1⟩
      obtain rfl := hw1.symm
      go_wp2_with fail
      refine HKN.out.mono ?_
      rintro e w3 ⟨rfl, hb⟩
      have HW3 := Lib.hid (HW.out.trans (hb.mono HW.out.size))
      clear hb
      go_wp2_with fail
      go_ret
      exact ⟨rfl, HW3.out⟩
end Wo
end Go.Proofs.Ytpblhdpnmnfieaa
