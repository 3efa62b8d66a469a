/-
  OWN WORK. fault.Wrap over chains.
-/
import Derived.Test.YtbidhljigeoooaaDoorFaWhere
namespace Go.Proofs.YtbidhljigeoooaaDoor
open Go.RowKit Go.Stop

set_option maxHeartbeats 1000000 in
set_option maxRecDepth 100000 in
theorem wrap_any : WrapSaid := by
  intro op path l base v w hch hgood hs hg
  have hcode : (base.code == 0) = false := by
    cases base with
    | none => rfl
    | num c => have : c ≠ 0 := hgood; simpa [Base.code] using this
    | other b => rfl
  have hne : v ≠ .nilIface := by
    rintro rfl
    cases l with
    | nil => cases base with
      | none => exact hgood rfl
      | num c => cases hch
      | other b => cases hch
    | cons q l => obtain ⟨_, _, h, _⟩ := hch; cases h
  rcases chain_shape hch with rfl | ⟨t0, x0, rfl⟩
  · exact absurd rfl hne
  have HCH := Lib.hid hch
  have HS := Lib.hid hs
  have HG := Lib.hid hg
  clear hch hgood hs hg hne
  go_enter Tryd.func8, Tryd.ntmps8
  go_wp2_with fail
  refine (code_any l base _ w HCH.out (by simp) HS.out HG.out).mono ?_
  rintro e w1 ⟨rfl, hb1⟩
  have HB1 := Lib.hid hb1
  have HC1 := Lib.hid (HCH.out.below hb1)
  clear hb1
  go_wp2
  go_ret
  exact ⟨w1.heap.size, rfl, ⟨w1.heap.size, _, rfl, heap_alloc_new _ _, HC1.out.alloc⟩, HB1.out.alloc HB1.out.size _⟩

set_option maxHeartbeats 1000000 in
set_option maxRecDepth 100000 in
theorem wrapNone_any : WrapNoneSaid := by
  intro op path v w hv hg
  rcases hv with rfl | rfl
  · go_enter Tryd.func8, Tryd.ntmps8
    go_wp2_with fail
    refine (codeNil_any w).mono ?_
    rintro e w1 ⟨rfl, hb1⟩
    have HB1 := Lib.hid hb1
    clear hb1
    go_wp2
    go_ret
    exact ⟨rfl, HB1.out⟩
  · have HG := Lib.hid hg
    clear hg
    go_enter Tryd.func8, Tryd.ntmps8
    go_wp2_with fail
    refine (code_any [] (.num 0) _ w rfl (by simp [Base.val]) ⟨by simp, by simp⟩ HG.out).mono ?_
    rintro e w1 ⟨rfl, hb1⟩
    have HB1 := Lib.hid hb1
    clear hb1
    simp only [Base.code]
    go_wp2
    go_ret
    exact ⟨rfl, HB1.out⟩
end Go.Proofs.YtbidhljigeoooaaDoor
