/-
  OWN WORK. PathNumbers: the law's walk.
-/
import Derived.Test.YtmdffakhejdkoaaPaKnown
namespace Go.Proofs.Ytmdffakhejdkoaa
open Go.RowKit

/-- The texts that are held. -/
def texts : List Bs := [[], [47], [47, 47], [97], [47, 97], [47, 97, 47], [47, 97, 47, 47, 98], [47, 46], [47, 46, 46], [47, 46, 46, 46], [47, 46, 97], [47, 97, 47, 98, 47, 99, 47, 100, 47, 101, 47, 102, 47, 103, 47, 104], [47, 97, 47, 98, 47, 99, 47, 100, 47, 101, 47, 102, 47, 103, 47, 104, 47, 105], [47, 97, 47, 98, 47, 99, 47, 100, 47, 101, 47, 102, 47, 103, 47, 104, 47], [47, 48, 49, 50, 51, 52, 53, 54, 55, 56, 57, 97, 98, 99, 100, 101, 102], [47, 48, 49, 50, 51, 52, 53, 54, 55, 56, 57, 97, 98, 99, 100, 101, 102, 103], [47, 65], [47, 97, 32, 98], [47, 97, 95, 98, 45, 99, 46, 100], [47, 255], [47, 97, 0], [32, 47, 97], [97, 45, 98], [46]]
theorem texts_short : ∀ x ∈ texts, x.length ≤ 1000000000 := by decide

set_option maxHeartbeats 8000000 in
set_option maxRecDepth 100000 in
theorem numbers_any (w : World) : Calls Try.prog 3 #[] w fun e w' => e = .returned (.bool true) ∧ Below w.heap.size w w' := by
  go_enter Try.func3, Try.ntmps3
  go_wp2_with fail
  refine wp_world (fun wm => RdS wm (some ⟨w.heap.size, 0, none⟩) texts ∧ Below w.heap.size w wm) ⟨rds_alloc w texts _ _, below_new w _⟩ ?_
  intro wm ⟨hr, hb⟩
  have HR := Lib.hid hr
  have HB := Lib.hid hb
  clear hr hb
  go_loopw [11] (fun t11 wr => ∃ k : Nat, t11 = .int .i64 k ∧ k ≤ 24 ∧ Hid (Below wm.heap.size wm wr)) (fun t11 _ => 24 - (match t11 with | .int _ k => k.toNat | _ => 0))
  case atStart => exact ⟨0, rfl, Nat.zero_le _, Below.refl _ _⟩
  case round =>
    obtain ⟨k, rfl, hk, HW⟩ := hrel
    by_cases hlt : k < 24
    · obtain ⟨x, hx⟩ : ∃ x, texts[k]? = some x := ⟨_, List.getElem?_eq_getElem hlt⟩
      obtain ⟨b, off, e, hcell⟩ := (HR.out.below HW.out).at_ hx
      injection e with e
      injection e with e1 e2 _
      subst e1 e2
      have hxl := texts_short x (List.mem_of_getElem? hx)
      clear hx
      rw [Nat.zero_add] at hcell
      go_wp2_with fail
      refine (same_any x _ hxl).mono ?_
      rintro e w1 ⟨rfl, hb⟩
      have HW1 : Hid (Below wm.heap.size wm w1) := HW.out.trans (hb.mono HW.out.size)
      clear hb
      go_wp2_with fail
      go_roundw
      case rel => exact ⟨k + 1, rfl, by omega, HW1.out⟩
      case measure => simp; omega
    · obtain rfl : k = 24 := by omega
      have HB0 : Hid (Below w.heap.size w wr) := HB.out.trans (HW.out.mono HB.out.size)
      clear HB HW HR
      go_wp2_with fail
      refine (parent_any [[97], [98], [99]] [[97], [98]] [99] (some ⟨wr.heap.size, 0, none⟩) _ _ (rds_alloc wr [[97], [98], [99]] _ _) (by decide) (by decide) rfl).mono ?_
      rintro e v1 ⟨XP, cP, rfl, hcP, hrP, hb⟩
      have HB1 : Hid (Below w.heap.size w v1) := HB0.out.trans (((below_new wr _).trans (hb.mono (by rw [World.size_alloc]; omega))).mono HB0.out.size)
      have HP1 := Lib.hid hrP
      clear hb hrP hcP
      go_wp2_with fail
      refine (parent_none none _ v1).mono ?_
      rintro e v2 ⟨rfl, rfl⟩
      have tc : ((strOf [99]).toList == [99]) = true := by rw [strOf_lit]; decide
      go_wp2_with fail
      refine (sameS_any _ [[97], [98]] [[97], [98]] XP (some ⟨v1.heap.size, 0, none⟩) _ _ (HP1.out.below (below_new v1 _)) (rds_alloc v1 [[97], [98]] _ _) (by decide) (by decide)).mono ?_
      rintro e v2 ⟨rfl, hb⟩
      have HB2 : Hid (Below w.heap.size w v2) := HB1.out.trans (((below_new v1 _).trans (hb.mono (by rw [World.size_alloc]; omega))).mono HB1.out.size)
      clear hb
      rw [show decide (([[97], [98]] : List Bs) = [[97], [98]]) = true from by decide]
      go_wp2_with fail
      refine (within_names ((v2.alloc (.cells (txtCells [[97], [98]]).toArray 9)).alloc (.cells (txtCells [[97]]).toArray 9)) [[97], [98]] [[97]] (some ⟨v2.heap.size, 0, none⟩) (some ⟨v2.heap.size + 1, 0, none⟩) _ _ ((rds_alloc v2 [[97], [98]] _ _).below (below_new _ _)) (by have h := rds_alloc (v2.alloc (.cells (txtCells [[97], [98]]).toArray 9)) [[97]] 9 (0, 0); rw [World.size_alloc] at h; exact h) (by decide) (by decide)).mono ?_
      rintro e v3 ⟨rfl, hv⟩
      have HB3 : Hid (Below w.heap.size w v3) := by
        rw [← hv]
        exact HB2.out.trans (((below_new v2 _).trans ((below_new _ _).mono (by rw [World.size_alloc]; omega))).mono HB2.out.size)
      clear hv
      rw [show decide (([[97]] : List Bs) = List.take (List.length ([[97]] : List Bs)) [[97], [98]]) = true from by decide]
      go_wp2_with fail
      refine (within_names _ [] [] none none _ _ (RdS.nil _ _) (RdS.nil _ _) (by decide) (by decide)).mono ?_
      rintro e _ ⟨rfl, rfl⟩
      rw [show decide (([] : List Bs) = List.take (List.length ([] : List Bs)) []) = true from by decide]
      go_wp2_with fail
      refine (within_names ((v3.alloc (.cells (txtCells [[97]]).toArray 9)).alloc (.cells (txtCells [[97], [98]]).toArray 9)) [[97]] [[97], [98]] (some ⟨v3.heap.size, 0, none⟩) (some ⟨v3.heap.size + 1, 0, none⟩) _ _ ((rds_alloc v3 [[97]] _ _).below (below_new _ _)) (by have h := rds_alloc (v3.alloc (.cells (txtCells [[97]]).toArray 9)) [[97], [98]] 9 (0, 0); rw [World.size_alloc] at h; exact h) (by decide) (by decide)).mono ?_
      rintro e v4 ⟨rfl, hv⟩
      have HB4 : Hid (Below w.heap.size w v4) := by
        rw [← hv]
        exact HB3.out.trans (((below_new v3 _).trans ((below_new _ _).mono (by rw [World.size_alloc]; omega))).mono HB3.out.size)
      clear hv
      rw [show decide (([[97], [98]] : List Bs) = List.take (List.length ([[97], [98]] : List Bs)) [[97]]) = false from by decide]
      go_wp2_with fail
      refine (within_names ((v4.alloc (.cells (txtCells [[98]]).toArray 9)).alloc (.cells (txtCells [[97]]).toArray 9)) [[98]] [[97]] (some ⟨v4.heap.size, 0, none⟩) (some ⟨v4.heap.size + 1, 0, none⟩) _ _ ((rds_alloc v4 [[98]] _ _).below (below_new _ _)) (by have h := rds_alloc (v4.alloc (.cells (txtCells [[98]]).toArray 9)) [[97]] 9 (0, 0); rw [World.size_alloc] at h; exact h) (by decide) (by decide)).mono ?_
      rintro e v5 ⟨rfl, hv⟩
      have HB5 : Hid (Below w.heap.size w v5) := by
        rw [← hv]
        exact HB4.out.trans (((below_new v4 _).trans ((below_new _ _).mono (by rw [World.size_alloc]; omega))).mono HB4.out.size)
      clear hv
      rw [show decide (([[97]] : List Bs) = List.take (List.length ([[97]] : List Bs)) [[98]]) = false from by decide]
      go_wp2_with fail
      refine (known_any _).mono ?_
      rintro e v6 ⟨rfl, hb⟩
      have HB6 : Hid (Below w.heap.size w v6) := HB5.out.trans (hb.mono HB5.out.size)
      clear hb
      go_wp2_with fail
      go_ret
      exact ⟨rfl, HB6.out⟩
end Go.Proofs.Ytmdffakhejdkoaa
