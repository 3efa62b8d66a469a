/-
  OWN WORK. The tied cards of layer 1's laws, given what package fault's calls do.
-/
import Derived.Test.YtbidhljigeoooaaDoorFaLift
import Derived.Test.YtbidhljigeoooaaDoorCards
import Derived.Test.YtbidhljigeoooaaDoorTie
import Derived.SevenTiedAt
namespace Go.Proofs.YtbidhljigeoooaaDoor
open Go

theorem faultNumbers_card (h : Rows.FaultNumbersSaid) : Rows.FaultNumbersCardSaid :=
  Claim7.holds_tied_plain_at .later [] [.handle] true (true, "a684646c0f415e9ca167be442deee24b1fa868740aed4b333dd7c7141f906ecf") true
    h (fun _ h => by cases h) (by kernel_rfl) (fun _ h => by cases h) faultNumbers_row_tie rfl ⟨rfl, rfl⟩ (by kernel_rfl) rfl
    (fun f fn hf hfn => by
      obtain rfl : f = 3 := Option.some.inj ((show Tryd.prog.funcNamed "permafrost/permafrostlaw1.FaultNumbers" = some 3 by kernel_rfl).symm.trans hf) |>.symm
      obtain rfl : fn = Tryd.f3 := (Option.some.inj (Tryd.func3.symm.trans hfn)).symm
      exact ⟨by kernel_rfl, fun j t ht => by
        rw [Tryd.params3] at ht
        simp at ht
      ⟩)
    (by kernel_rfl)

theorem faultChains_card (h : Rows.FaultChainsSaid) : Rows.FaultChainsCardSaid :=
  Claim7.holds_tied_plain_at .later [] [.handle] true (true, "a684646c0f415e9ca167be442deee24b1fa868740aed4b333dd7c7141f906ecf") true
    h (fun _ h => by cases h) (by kernel_rfl) (fun _ h => by cases h) faultChains_row_tie rfl ⟨rfl, rfl⟩ (by kernel_rfl) rfl
    (fun f fn hf hfn => by
      obtain rfl : f = 4 := Option.some.inj ((show Tryd.prog.funcNamed "permafrost/permafrostlaw1.FaultChains" = some 4 by kernel_rfl).symm.trans hf) |>.symm
      obtain rfl : fn = Tryd.f4 := (Option.some.inj (Tryd.func4.symm.trans hfn)).symm
      exact ⟨by kernel_rfl, fun j t ht => by
        rw [Tryd.params4] at ht
        have hj : j < 3 := by
          have := (Array.getElem?_eq_some_iff.1 ht).1
          simpa using this
        have hall : ∀ k, k < 3 → ∀ u, (#[40, 3, 3] : Array TypeId)[k]? = some u → Tryd.prog.wantsStandIn u = false := by
          intro k hk u hu
          match k, hk with
          | 0, _ => obtain rfl : 40 = u := by simpa using hu
                    exact (show Tryd.prog.wantsStandIn 40 = false by kernel_rfl)
          | 1, _ => obtain rfl : 3 = u := by simpa using hu
                    exact (show Tryd.prog.wantsStandIn 3 = false by kernel_rfl)
          | 2, _ => obtain rfl : 3 = u := by simpa using hu
                    exact (show Tryd.prog.wantsStandIn 3 = false by kernel_rfl)
        exact hall j hj t ht
      ⟩)
    (by kernel_rfl)

theorem faultUnwraps_card (h : Rows.FaultUnwrapsSaid) : Rows.FaultUnwrapsCardSaid :=
  Claim7.holds_tied_plain_at .later [] [.handle] true (true, "a684646c0f415e9ca167be442deee24b1fa868740aed4b333dd7c7141f906ecf") true
    h (fun _ h => by cases h) (by kernel_rfl) (fun _ h => by cases h) faultUnwraps_row_tie rfl ⟨rfl, rfl⟩ (by kernel_rfl) rfl
    (fun f fn hf hfn => by
      obtain rfl : f = 5 := Option.some.inj ((show Tryd.prog.funcNamed "permafrost/permafrostlaw1.FaultUnwraps" = some 5 by kernel_rfl).symm.trans hf) |>.symm
      obtain rfl : fn = Tryd.f5 := (Option.some.inj (Tryd.func5.symm.trans hfn)).symm
      exact ⟨by kernel_rfl, fun j t ht => by
        rw [Tryd.params5] at ht
        have hj : j < 2 := by
          have := (Array.getElem?_eq_some_iff.1 ht).1
          simpa using this
        have hall : ∀ k, k < 2 → ∀ u, (#[40, 3] : Array TypeId)[k]? = some u → Tryd.prog.wantsStandIn u = false := by
          intro k hk u hu
          match k, hk with
          | 0, _ => obtain rfl : 40 = u := by simpa using hu
                    exact (show Tryd.prog.wantsStandIn 40 = false by kernel_rfl)
          | 1, _ => obtain rfl : 3 = u := by simpa using hu
                    exact (show Tryd.prog.wantsStandIn 3 = false by kernel_rfl)
        exact hall j hj t ht
      ⟩)
    (by kernel_rfl)

theorem faultOuter_card (h : Rows.FaultOuterSaid) : Rows.FaultOuterCardSaid :=
  Claim7.holds_tied_plain_at .later [] [.handle] true (true, "a684646c0f415e9ca167be442deee24b1fa868740aed4b333dd7c7141f906ecf") true
    h (fun _ h => by cases h) (by kernel_rfl) (fun _ h => by cases h) faultOuter_row_tie rfl ⟨rfl, rfl⟩ (by kernel_rfl) rfl
    (fun f fn hf hfn => by
      obtain rfl : f = 6 := Option.some.inj ((show Tryd.prog.funcNamed "permafrost/permafrostlaw1.FaultOuter" = some 6 by kernel_rfl).symm.trans hf) |>.symm
      obtain rfl : fn = Tryd.f6 := (Option.some.inj (Tryd.func6.symm.trans hfn)).symm
      exact ⟨by kernel_rfl, fun j t ht => by
        rw [Tryd.params6] at ht
        have hj : j < 4 := by
          have := (Array.getElem?_eq_some_iff.1 ht).1
          simpa using this
        have hall : ∀ k, k < 4 → ∀ u, (#[40, 3, 9, 9] : Array TypeId)[k]? = some u → Tryd.prog.wantsStandIn u = false := by
          intro k hk u hu
          match k, hk with
          | 0, _ => obtain rfl : 40 = u := by simpa using hu
                    exact (show Tryd.prog.wantsStandIn 40 = false by kernel_rfl)
          | 1, _ => obtain rfl : 3 = u := by simpa using hu
                    exact (show Tryd.prog.wantsStandIn 3 = false by kernel_rfl)
          | 2, _ => obtain rfl : 9 = u := by simpa using hu
                    exact (show Tryd.prog.wantsStandIn 9 = false by kernel_rfl)
          | 3, _ => obtain rfl : 9 = u := by simpa using hu
                    exact (show Tryd.prog.wantsStandIn 9 = false by kernel_rfl)
        exact hall j hj t ht
      ⟩)
    (by kernel_rfl)
end Go.Proofs.YtbidhljigeoooaaDoor
