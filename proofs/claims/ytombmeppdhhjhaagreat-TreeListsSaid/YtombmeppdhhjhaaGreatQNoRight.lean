/-
  OWN WORK. What is right, by the program and by the document.
-/
import Derived.Test.YtombmeppdhhjhaaGreatQ01
namespace Go.Proofs.YtombmeppdhhjhaaGreat
open Go.RowKit

theorem upTo_yes (x m : Int) (w : World) (h : 0 ≤ x ∧ x ≤ m) : Calls Tryz.prog 155 #[.int .i64 x, .int .i64 m] w fun e w' => e = .returned (.bool true) ∧ w = w' := by
  obtain ⟨h0, h1⟩ := h
  go_enter Tryz.func155, Tryz.ntmps155
  go_wp2
  go_ret
  exact ⟨rfl, rfl⟩
theorem upTo_no (x m : Int) (w : World) (h : ¬ (0 ≤ x ∧ x ≤ m)) : Calls Tryz.prog 155 #[.int .i64 x, .int .i64 m] w fun e w' => e = .returned (.bool false) ∧ w = w' := by
  by_cases h0 : 0 ≤ x
  · have h1 : ¬ x ≤ m := fun hm => h ⟨h0, hm⟩
    clear h
    go_enter Tryz.func155, Tryz.ntmps155
    go_wp2
    go_ret
    exact ⟨rfl, rfl⟩
  · clear h
    go_enter Tryz.func155, Tryz.ntmps155
    go_wp2
    go_ret
    exact ⟨rfl, rfl⟩
theorem Nd.right_is (n : Nd) (b : Bool) (h : n.Right ↔ b = true) : n.right = b := by
  unfold Nd.right
  cases b
  · simpa using h
  · simpa using h

set_option maxHeartbeats 1000000 in
theorem right_any (n : Nd) (w : World) : Calls Tryz.prog 124 #[n.val] w fun e w' => e = .returned (.bool n.right) ∧ Below w.heap.size w w' := by
  obtain ⟨id, kind, links, size, till, shut⟩ := n
  show Calls _ _ #[.agg #[.int .i64 id, .int .i64 kind, .int .i64 links, .int .i64 size, .int .u64 (till : Nat), .bool shut]] w _
  have HYY : Hid (∀ h, Hid (Nd.right ⟨id, kind, links, size, till, shut⟩ = true)) := Lib.hid (Nd.right_is ⟨id, kind, links, size, till, shut⟩ true)
  have HNN : Hid (∀ h, Hid (Nd.right ⟨id, kind, links, size, till, shut⟩ = false)) := Lib.hid (Nd.right_is ⟨id, kind, links, size, till, shut⟩ false)
  by_cases h1 : 0 ≤ id ∧ id ≤ 65535
  · by_cases h2 : 0 ≤ links ∧ links ≤ 65535
    · by_cases k1 : kind = 1
      · by_cases h3 : 0 ≤ size ∧ size ≤ 4096
        · by_cases h4 : (till : Int) ≤ 1099511627776
          · go_enter Tryz.func124, Tryz.ntmps124
            go_wp2_with fail
            refine (upTo_yes _ _ _ h1).mono ?_
            rintro e _ ⟨rfl, rfl⟩
            go_wp2_with fail
            refine (upTo_yes _ _ _ h2).mono ?_
            rintro e _ ⟨rfl, rfl⟩
            go_wp2_with fail
            refine (upTo_yes _ _ _ h3).mono ?_
            rintro e _ ⟨rfl, rfl⟩
            go_wp2_with fail
            go_ret
            refine ⟨congrArg (fun b => Ending.returned (Value.bool b)) (Eq.trans ?_ (HYY.out (by simp [Nd.Right] <;> omega)).out.symm), below_new w _⟩; first | rfl | (simp <;> omega)
          · go_enter Tryz.func124, Tryz.ntmps124
            go_wp2_with fail
            refine (upTo_yes _ _ _ h1).mono ?_
            rintro e _ ⟨rfl, rfl⟩
            go_wp2_with fail
            refine (upTo_yes _ _ _ h2).mono ?_
            rintro e _ ⟨rfl, rfl⟩
            go_wp2_with fail
            refine (upTo_yes _ _ _ h3).mono ?_
            rintro e _ ⟨rfl, rfl⟩
            go_wp2_with fail
            go_ret
            refine ⟨congrArg (fun b => Ending.returned (Value.bool b)) (Eq.trans ?_ (HNN.out (by simp [Nd.Right] <;> omega)).out.symm), below_new w _⟩; first | rfl | (simp <;> omega)
        · go_enter Tryz.func124, Tryz.ntmps124
          go_wp2_with fail
          refine (upTo_yes _ _ _ h1).mono ?_
          rintro e _ ⟨rfl, rfl⟩
          go_wp2_with fail
          refine (upTo_yes _ _ _ h2).mono ?_
          rintro e _ ⟨rfl, rfl⟩
          go_wp2_with fail
          refine (upTo_no _ _ _ h3).mono ?_
          rintro e _ ⟨rfl, rfl⟩
          go_wp2_with fail
          go_ret
          refine ⟨congrArg (fun b => Ending.returned (Value.bool b)) (Eq.trans ?_ (HNN.out (by simp [Nd.Right] <;> omega)).out.symm), below_new w _⟩; first | rfl | (simp <;> omega)
      · by_cases k2 : kind = 2
        · by_cases h3 : size = 0
          · by_cases h4 : (till : Int) = 0
            · cases shut
              · go_enter Tryz.func124, Tryz.ntmps124
                go_wp2_with fail
                refine (upTo_yes _ _ _ h1).mono ?_
                rintro e _ ⟨rfl, rfl⟩
                go_wp2_with fail
                refine (upTo_yes _ _ _ h2).mono ?_
                rintro e _ ⟨rfl, rfl⟩
                go_wp2_with fail
                go_ret
                refine ⟨congrArg (fun b => Ending.returned (Value.bool b)) (Eq.trans ?_ (HNN.out (by simp [Nd.Right] <;> omega)).out.symm), below_new w _⟩; first | rfl | (simp <;> omega)
              · go_enter Tryz.func124, Tryz.ntmps124
                go_wp2_with fail
                refine (upTo_yes _ _ _ h1).mono ?_
                rintro e _ ⟨rfl, rfl⟩
                go_wp2_with fail
                refine (upTo_yes _ _ _ h2).mono ?_
                rintro e _ ⟨rfl, rfl⟩
                go_wp2_with fail
                go_ret
                refine ⟨congrArg (fun b => Ending.returned (Value.bool b)) (Eq.trans ?_ (HYY.out (by simp [Nd.Right] <;> omega)).out.symm), below_new w _⟩; first | rfl | (simp <;> omega)
            · go_enter Tryz.func124, Tryz.ntmps124
              go_wp2_with fail
              refine (upTo_yes _ _ _ h1).mono ?_
              rintro e _ ⟨rfl, rfl⟩
              go_wp2_with fail
              refine (upTo_yes _ _ _ h2).mono ?_
              rintro e _ ⟨rfl, rfl⟩
              go_wp2_with fail
              go_ret
              refine ⟨congrArg (fun b => Ending.returned (Value.bool b)) (Eq.trans ?_ (HNN.out (by simp [Nd.Right] <;> omega)).out.symm), below_new w _⟩; first | rfl | (simp <;> omega)
          · go_enter Tryz.func124, Tryz.ntmps124
            go_wp2_with fail
            refine (upTo_yes _ _ _ h1).mono ?_
            rintro e _ ⟨rfl, rfl⟩
            go_wp2_with fail
            refine (upTo_yes _ _ _ h2).mono ?_
            rintro e _ ⟨rfl, rfl⟩
            go_wp2_with fail
            go_ret
            refine ⟨congrArg (fun b => Ending.returned (Value.bool b)) (Eq.trans ?_ (HNN.out (by simp [Nd.Right] <;> omega)).out.symm), below_new w _⟩; first | rfl | (simp <;> omega)
        · go_enter Tryz.func124, Tryz.ntmps124
          go_wp2_with fail
          refine (upTo_yes _ _ _ h1).mono ?_
          rintro e _ ⟨rfl, rfl⟩
          go_wp2_with fail
          refine (upTo_yes _ _ _ h2).mono ?_
          rintro e _ ⟨rfl, rfl⟩
          go_wp2_with fail
          go_ret
          refine ⟨congrArg (fun b => Ending.returned (Value.bool b)) (Eq.trans ?_ (HNN.out (by simp [Nd.Right] <;> omega)).out.symm), below_new w _⟩; first | rfl | (simp <;> omega)
    · go_enter Tryz.func124, Tryz.ntmps124
      go_wp2_with fail
      refine (upTo_yes _ _ _ h1).mono ?_
      rintro e _ ⟨rfl, rfl⟩
      go_wp2_with fail
      refine (upTo_no _ _ _ h2).mono ?_
      rintro e _ ⟨rfl, rfl⟩
      go_wp2_with fail
      go_ret
      refine ⟨congrArg (fun b => Ending.returned (Value.bool b)) (Eq.trans ?_ (HNN.out (by simp [Nd.Right] <;> omega)).out.symm), below_new w _⟩; first | rfl | (simp <;> omega)
  · go_enter Tryz.func124, Tryz.ntmps124
    go_wp2_with fail
    refine (upTo_no _ _ _ h1).mono ?_
    rintro e _ ⟨rfl, rfl⟩
    go_wp2_with fail
    go_ret
    refine ⟨congrArg (fun b => Ending.returned (Value.bool b)) (Eq.trans ?_ (HNN.out (by simp [Nd.Right] <;> omega)).out.symm), below_new w _⟩; first | rfl | (simp <;> omega)

end Go.Proofs.YtombmeppdhhjhaaGreat
